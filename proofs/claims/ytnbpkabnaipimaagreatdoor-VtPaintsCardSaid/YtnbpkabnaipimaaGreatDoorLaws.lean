/- What the laws ask of the program's functions (Said); the law VtPaints over it. Conditions: the grids' cells lie in memory. -/
import Derived.Test.YtnbpkabnaipimaaGreatDoorToks
import Derived.Test.YtnbpkabnaipimaaGreatDoorAs
import Derived.Deep.RegionWith
import Derived.Laws.BytesArg
namespace Go.Proofs.YtnbpkabnaipimaaGreatDoor
open Go Go.RowKit Go.Lib

/-- A grid as a value. -/
abbrev GridV (R C : Int) (a : Option Addr) (n cap : Nat) : Value := .agg #[.int .i64 R, .int .i64 C, .slice a n cap]
/-- Are both of one size? -/
def sizeSame (R C Q D : Int) (fn tn : Nat) : Bool := decide (R = Q) && decide (C = D) && decide (fn = tn)
/-- Bytes in memory, as a value. -/
def BytesV (w : World) (v : Value) (bs : List Int) : Prop := ∃ a c, v = .slice a bs.length c ∧ bs.length ≤ c ∧ (a = none ∧ bs.length = 0 ∧ c = 0 ∨ ∃ b off, a = some ⟨b, off, none⟩) ∧ SeqAt .u8 w a bs.length bs
theorem BytesV.below {w w' : World} {v : Value} {bs : List Int} (h : BytesV w v bs) (hb : Below w.heap.size w w') : BytesV w' v bs := by
  obtain ⟨a, c, h1, h2, h3, h4⟩ := h
  exact ⟨a, c, h1, h2, h3, h4.below hb⟩
theorem own_bytesV {w : World} {B n : Nat} {v : Value} {bs : List Int} (h : w.ownsRow B 5 1 v n (byV bs)) : BytesV w v bs := by
  have hl := h.1
  rw [byV_len] at hl
  obtain rfl : n = bs.length := by omega
  obtain ⟨a, c, h1, h2, h3, h4⟩ := own_bytes h
  refine ⟨a, c, h1, h2, ?_, h4⟩
  rcases h.2 with ⟨rfl, h0⟩ | ⟨g, k, cur, rfl, _⟩
  · simp only [Value.slice.injEq] at h1
    obtain ⟨rfl, _, rfl⟩ := h1
    exact .inl ⟨rfl, h3 rfl⟩
  · simp only [Value.slice.injEq] at h1
    obtain ⟨rfl, _, rfl⟩ := h1
    exact .inr ⟨_, _, rfl⟩

/-- string(b), of bytes that lie in memory. -/
theorem conv_bytesV {w : World} {v : Value} {bs : List Int} (h : BytesV w v bs) : (convert 26 9 v).run Tryz.prog w = .ok (.string (strOfNums bs)) w := by
  obtain ⟨a, c, rfl, _, _, hl, h0 | ⟨b, off, rfl, hlt, hc⟩⟩ := h
  · obtain rfl : bs = [] := List.eq_nil_of_length_eq_zero h0
    rw [List.length_nil, run_convert_bytes_string w 26 9 5 a 0 c Tryz.underlying26 Tryz.underlying5 Tryz.underlying9]
    cases a <;> simp [Conv.bytesToString, loadCells]
    all_goals rfl
  · refine run_convert_bytes_arg (P := Tryz.prog) w 26 5 Tryz.underlying26 Tryz.underlying5 b off bs.length c bs rfl (fun i hi => ?_) 9 Tryz.underlying9
    rw [hc i (bs.getD i 0) (by rw [List.getD_eq_getElem?_getD, List.getElem?_eq_getElem hi]; rfl)]

theorem prp_all {R C : Int} {l : List Cl} (h : Prp R C l) : ∀ c ∈ l, mayR c.r ∧ 0 ≤ c.s ∧ c.s ≤ 7 := by
  intro c hc
  obtain ⟨i, hi, rfl⟩ := List.getElem_of_mem hc
  obtain ⟨d, hd, h0, h7, hz, hn⟩ := h.2.2.2.2.2 i hi
  rw [List.getElem?_eq_getElem hi] at hd
  cases hd
  refine ⟨?_, h0, h7⟩
  by_cases hr : (l[i]).r = 0
  · exact .inl hr
  · exact .inr (okR_valid (hn hr).1)

/-- Bytes in new memory. -/
def BytesN (B : Nat) (w : World) (v : Value) (bs : List Int) : Prop := BytesV w v bs ∧ ∀ a n c, v = .slice a n c → ∀ x, a = some x → B ≤ x.block

/-- What Paint answers. -/
def GotB (R C Q D : Int) (fn tn : Nat) (f t : List Cl) (w : World) (e : Ending) (w' : World) : Prop :=
  ∃ v, Below w.heap.size w w' ∧ ((¬ Prp Q D t ∧ e = .returned (.tuple #[v, .int .i64 1]) ∧ BytesN w.heap.size w' v []) ∨
    (Prp Q D t ∧ e = .returned (.tuple #[v, .int .i64 0]) ∧ BytesN w.heap.size w' v (paintP (sizeSame R C Q D fn tn) Q.toNat D.toNat f t)))

/-- What the laws ask of the program's Proper and Paint. -/
structure Said0 (Wd : World → Prop) : Prop where
  keep : ∀ {w w' : World}, Wd w → Below w.heap.size w w' → Wd w'
  proper : ∀ (R C : Int) (a : Option Addr) (n cap : Nat) (l : List Cl) (w : World), Wd w → n ≤ 1000 → n ≤ cap → RowAt w a n l → Calls Tryz.prog 8 #[GridV R C a n cap] w (GotP R C l w)
  paint : ∀ (R C : Int) (fa : Option Addr) (fn fc : Nat) (f : List Cl) (Q D : Int) (ta : Option Addr) (tn tc : Nat) (t : List Cl) (w : World), Wd w → fn ≤ 1000 → tn ≤ 1000 → fn ≤ fc → tn ≤ tc → RowAt w fa fn f → RowAt w ta tn t →
    Calls Tryz.prog 5 #[GridV R C fa fn fc, GridV Q D ta tn tc] w (GotB R C Q D fn tn f t w)
/-- What the laws ask of the program's functions. -/
structure Said (Wd : World → Prop) : Prop extends Said0 Wd where
  knows : ∀ w, Wd w → Calls Tryz.prog 4 #[] w fun e w' => e = .returned (.bool true) ∧ Below w.heap.size w w'

section
variable {Wd : World → Prop} (S : Said Wd)
include S
theorem paints_long (R C : Int) (fa : Option Addr) (fn fc : Nat) (Q D : Int) (ta : Option Addr) (tn tc : Nat) (w : World) (hw : Wd w) (h : 300 < fn ∨ 300 < tn) :
    Calls Tryz.prog 3 #[GridV R C fa fn fc, GridV Q D ta tn tc] w fun e w' => e = .returned (.bool true) ∧ Below w.heap.size w w' := by
  have HW := Lib.hid hw
  have HS := Lib.hid S
  clear S hw
  have hb : ∀ o1 o2, Below w.heap.size w ((w.alloc o1).alloc o2) := fun o1 o2 => ((Below.refl _ _).alloc (Nat.le_refl _) o1).alloc (by simp) o2
  have HB := Lib.hid hb
  clear hb
  rcases h with h | h
  · have h' : (300 : Int) < (fn : Int) := by omega
    go_enter Tryz.func3, Tryz.ntmps3
    go_wp2_with (go_at_call 4; refine (HS.out.knows _ (HS.out.keep HW.out (HB.out _ _))).mono ?_; rintro e w' ⟨rfl, hb⟩)
    go_ret
    exact ⟨rfl, (HB.out _ _).trans (hb.mono (by simp; omega))⟩
  · have h' : (300 : Int) < (tn : Int) := by omega
    by_cases h2 : (300 : Int) < (fn : Int)
    · go_enter Tryz.func3, Tryz.ntmps3
      go_wp2_with (go_at_call 4; refine (HS.out.knows _ (HS.out.keep HW.out (HB.out _ _))).mono ?_; rintro e w' ⟨rfl, hb⟩)
      go_ret
      exact ⟨rfl, (HB.out _ _).trans (hb.mono (by simp; omega))⟩
    · go_enter Tryz.func3, Tryz.ntmps3
      go_wp2_with (go_at_call 4; refine (HS.out.knows _ (HS.out.keep HW.out (HB.out _ _))).mono ?_; rintro e w' ⟨rfl, hb⟩)
      go_ret
      exact ⟨rfl, (HB.out _ _).trans (hb.mono (by simp; omega))⟩
set_option maxHeartbeats 4000000 in
set_option maxRecDepth 20000 in
theorem paints_short (R C : Int) (fa : Option Addr) (fn fc : Nat) (f : List Cl) (Q D : Int) (ta : Option Addr) (tn tc : Nat) (t : List Cl) (w : World) (hw : Wd w) (h1 : fn ≤ 300) (h2 : tn ≤ 300) (hfc : fn ≤ fc) (htc : tn ≤ tc) (hf : RowAt w fa fn f) (ht : RowAt w ta tn t) :
    Calls Tryz.prog 3 #[GridV R C fa fn fc, GridV Q D ta tn tc] w fun e w' => e = .returned (.bool true) ∧ Below w.heap.size w w' := by
  have HW := Lib.hid hw
  have HS := Lib.hid S
  have HF := Lib.hid hf
  have HT := Lib.hid ht
  clear S hw hf ht
  have h1' : ¬ (300 : Int) < (fn : Int) := by omega
  have h2' : ¬ (300 : Int) < (tn : Int) := by omega
  obtain ⟨V, hV⟩ : ∃ V, V = (w.alloc (Obj.cells #[.int .i64 R, .int .i64 C, .slice fa fn fc] 24)).alloc (Obj.cells #[.int .i64 Q, .int .i64 D, .slice ta tn tc] 24) := ⟨_, rfl⟩
  have hbV : Below w.heap.size w V := by rw [hV]; exact ((Below.refl _ _).alloc (Nat.le_refl _) _).alloc (by simp) _
  have x0 : V.cell? ⟨w.heap.size, 0, none⟩ = some (.int .i64 R) := by rw [hV]; go_simp
  have x1 : V.cell? ⟨w.heap.size, 1, none⟩ = some (.int .i64 C) := by rw [hV]; go_simp
  have x2 : V.cell? ⟨w.heap.size, 2, none⟩ = some (.slice fa fn fc) := by rw [hV]; go_simp
  have y0 : V.cell? ⟨w.heap.size + 1, 0, none⟩ = some (.int .i64 Q) := by rw [hV]; go_simp
  have y1 : V.cell? ⟨w.heap.size + 1, 1, none⟩ = some (.int .i64 D) := by rw [hV]; go_simp
  have y2 : V.cell? ⟨w.heap.size + 1, 2, none⟩ = some (.slice ta tn tc) := by rw [hV]; go_simp
  have hsV : w.heap.size + 2 = V.heap.size := by rw [hV]; simp
  have HC := Lib.hid (show ∀ W : World, Below V.heap.size V W → (W.cell? ⟨w.heap.size, 0, none⟩ = some (.int .i64 R) ∧ W.cell? ⟨w.heap.size, 1, none⟩ = some (.int .i64 C) ∧ W.cell? ⟨w.heap.size, 2, none⟩ = some (.slice fa fn fc)) ∧ W.cell? ⟨w.heap.size + 1, 0, none⟩ = some (.int .i64 Q) ∧ W.cell? ⟨w.heap.size + 1, 1, none⟩ = some (.int .i64 D) ∧ W.cell? ⟨w.heap.size + 1, 2, none⟩ = some (.slice ta tn tc) from fun W hb =>
    ⟨⟨(hb.cell (by show w.heap.size < _; omega)).trans x0, (hb.cell (by show w.heap.size < _; omega)).trans x1, (hb.cell (by show w.heap.size < _; omega)).trans x2⟩, (hb.cell (by show w.heap.size + 1 < _; omega)).trans y0, (hb.cell (by show w.heap.size + 1 < _; omega)).trans y1, (hb.cell (by show w.heap.size + 1 < _; omega)).trans y2⟩)
  have HBV := Lib.hid hbV
  have HWV := Lib.hid (HS.out.keep HW.out hbV)
  have HFV := Lib.hid (HF.out.below hbV)
  have HTV := Lib.hid (HT.out.below hbV)
  clear hbV x0 x1 x2 y0 y1 y2 HF HT HW
  go_enter Tryz.func3, Tryz.ntmps3
  go_wp2_with fail
  rw [← hV]
  clear hV
  (with_reducible refine (HS.out.paint R C fa fn fc f Q D ta tn tc t V HWV.out (by omega) (by omega) hfc htc HFV.out HTV.out).mono ?_)
  rintro e w1 ⟨vb, hb1, hcase⟩
  obtain ⟨⟨x0, x1, x2⟩, y0, y1, y2⟩ := HC.out w1 hb1
  have HB1 := Lib.hid hb1
  have hs1 := hb1.size
  have HW1 := Lib.hid (HS.out.keep HWV.out hb1)
  have HT1 := Lib.hid (HTV.out.below (hb1.mono (Nat.le_refl _)))
  have HF1 := Lib.hid (HFV.out.below (hb1.mono (Nat.le_refl _)))
  clear hb1 HWV HTV HFV
  have KA := Lib.hid (show ∀ (X Y : Int) (a : Option Addr) (n c : Nat) (l : List Cl), n ≤ 300 → RowAt w1 a n l → ∀ W, Below w1.heap.size w1 W → Calls Tryz.prog 7 #[.agg #[.int .i64 X, .int .i64 Y, .slice a n c]] W fun e w' => ∃ a' c', e = .returned (.slice a' n c') ∧ RowAt w' a' n l ∧ n ≤ c' ∧ Below W.heap.size W w' ∧ Below w1.heap.size w1 w' from fun X Y a n c l hn hl W hb =>
    (asG X Y a n c l W (by omega) (hl.below hb)).mono fun e w' ⟨v, he, ho, hbw⟩ => by
      obtain ⟨a', c', rfl, hc', _, hr⟩ := own_row ho
      exact ⟨a', c', he, hr, hc', hbw, hb.trans (hbw.mono hb.size)⟩)
  have KP := Lib.hid (show ∀ (a : Option Addr) (c : Nat) W, RowAt W a tn t → Below w1.heap.size w1 W → Calls Tryz.prog 6 #[.int .i64 Q, .int .i64 D, .slice a tn c] W fun e w' => ∃ b, e = .returned (.bool b) ∧ (b = true ↔ Prp Q D t) ∧ Below w1.heap.size w1 w' from fun a c W hr hb =>
    (refProper Q D a tn c t W (by omega) hr).mono fun e w' ⟨b, he, hi, hbw⟩ => ⟨b, he, hi, hb.trans (hbw.mono hb.size)⟩)
  have KN := Lib.hid (show ∀ W, Below w1.heap.size w1 W → Calls Tryz.prog 4 #[] W fun e w' => e = .returned (.bool true) ∧ Below w1.heap.size w1 w' from fun W hb =>
    (HS.out.knows W (HS.out.keep HW1.out hb)).mono fun e w' ⟨he, hbw⟩ => ⟨he, hb.trans (hbw.mono hb.size)⟩)
  have KS := Lib.hid (show ∀ W : World, Below w1.heap.size w1 W → (Below w1.heap.size w1 W ∧ W.cell? ⟨w.heap.size, 0, none⟩ = some (.int .i64 R) ∧ W.cell? ⟨w.heap.size, 1, none⟩ = some (.int .i64 C) ∧ W.cell? ⟨w.heap.size, 2, none⟩ = some (.slice fa fn fc) ∧ W.cell? ⟨w.heap.size + 1, 0, none⟩ = some (.int .i64 Q) ∧ W.cell? ⟨w.heap.size + 1, 1, none⟩ = some (.int .i64 D) ∧ W.cell? ⟨w.heap.size + 1, 2, none⟩ = some (.slice ta tn tc)) from fun W hb => by
    obtain ⟨⟨a0, a1, a2⟩, b0, b1, b2⟩ := HC.out W (HB1.out.trans (hb.mono hs1))
    exact ⟨hb, a0, a1, a2, b0, b1, b2⟩)
  have KPP := Lib.hid (show ∀ W, Below w1.heap.size w1 W → Calls Tryz.prog 8 #[GridV Q D ta tn tc] W fun e w' => ∃ b, e = .returned (.bool b) ∧ (b = true ↔ Prp Q D t) ∧ Below w1.heap.size w1 w' from fun W hb =>
    (HS.out.proper Q D ta tn tc t W (HS.out.keep HW1.out hb) (by omega) htc (HT1.out.below hb)).mono fun e w' ⟨b, he, hi, hbw⟩ => ⟨b, he, hi, hb.trans (hbw.mono hb.size)⟩)
  rcases hcase with ⟨hp, rfl, hv⟩ | ⟨hp, rfl, hv⟩
  · have HP := Lib.hid hp
    have HV := Lib.hid hv.1
    have KT := Lib.hid (KA.out Q D ta tn tc t h2 HT1.out)
    clear hp hv
    go_wp2_with fail
    go_region_held3 (fun W => Below w1.heap.size w1 W ∧ W.cell? ⟨w.heap.size, 0, none⟩ = some (.int .i64 R) ∧ W.cell? ⟨w.heap.size, 1, none⟩ = some (.int .i64 C) ∧ W.cell? ⟨w.heap.size, 2, none⟩ = some (.slice fa fn fc) ∧ W.cell? ⟨w.heap.size + 1, 0, none⟩ = some (.int .i64 Q) ∧ W.cell? ⟨w.heap.size + 1, 1, none⟩ = some (.int .i64 D) ∧ W.cell? ⟨w.heap.size + 1, 2, none⟩ = some (.slice ta tn tc))
      (first | exact KS.out _ (Below.refl _ _).drew | exact KS.out _ (by assumption) | assumption)
      (first
        | (go_at_call 7; (with_reducible refine (KT.out _ (And.left (by assumption))).mono ?_); rintro e w2 ⟨a2, c2, rfl, hr2, hc2, hq2, hb2⟩)
        | (go_at_call 6; (with_reducible refine (KP.out _ _ _ (by assumption) (And.left (by assumption))).mono ?_); rintro e w3 ⟨b3, rfl, hi3, hb3⟩))
    obtain rfl : b3 = false := by
      cases b3
      · rfl
      · exact absurd (hi3.1 rfl) HP.out
    obtain ⟨_, z0, z1, z2, z3, z4, z5⟩ := KS.out w3 hb3
    obtain ⟨va, vc, rfl, -, -, -⟩ := HV.out
    have HB3 := Lib.hid hb3
    clear hb3 hi3
    go_wp2_with (first
      | (go_at_call 8; (with_reducible refine (KPP.out _ HB3.out).mono ?_); rintro e w4 ⟨b4, rfl, hi4, hb4⟩; have HB4 := Lib.hid hb4; clear hb4; obtain rfl : b4 = false := (by cases b4; rfl; exact absurd (hi4.1 rfl) HP.out); clear hi4)
      | (go_at_call 4; (with_reducible refine (KN.out _ HB4.out).mono ?_); rintro e w5 ⟨rfl, hb5⟩))
    go_ret
    exact ⟨rfl, (HBV.out.trans (HB1.out.mono (by omega))).trans (hb5.mono (by omega))⟩
  · have hp' := hp
    obtain ⟨hq1, hq60, hd1, hd60, hqd, hcells⟩ := hp
    obtain ⟨q, rfl⟩ := Int.eq_ofNat_of_zero_le (show 0 ≤ Q by omega)
    obtain ⟨d, rfl⟩ := Int.eq_ofNat_of_zero_le (show 0 ≤ D by omega)
    have htn : tn = q * d := by rw [HT1.out.1] at hqd; exact_mod_cast hqd
    have htn1 : 1 ≤ tn := by
      rw [htn]
      exact Nat.mul_pos (by omega) (by omega)
    have HALL := Lib.hid (prp_all hp')
    have HP := Lib.hid hp'
    have HTN := Lib.hid htn
    have KF := Lib.hid (fun (X Y : Int) => KA.out X Y fa fn fc f h1 HF1.out)
    have KT := Lib.hid (KA.out q d ta tn tc t h2 HT1.out)
    have hv' : BytesV w1 vb (paintP (sizeSame R C q d fn tn) q d f t) := by simpa using hv.1
    have KB := Lib.hid (show ∀ W, Below w1.heap.size w1 W → (convert 26 9 vb).run Tryz.prog W = .ok (.string (strOfNums (paintP (sizeSame R C q d fn tn) q d f t))) W from fun W hb => conv_bytesV (hv'.below hb))
    have KR := Lib.hid (show ∀ (al : Bool) (a2 : Option Addr) (c2 : Nat) (a3 : Option Addr) (c3 : Nat) (W : World), sizeSame R C q d fn tn = (al && decide (fn = tn)) → RowAt W a2 fn f → RowAt W a3 tn t → tn ≤ c3 → Below w1.heap.size w1 W →
        Calls Tryz.prog 9 #[.slice a2 fn c2, .slice a3 tn c3, .int .i64 q, .int .i64 d, .bool al] W fun e w' => ∃ v, e = .returned v ∧ (convert 26 9 v).run Tryz.prog w' = .ok (.string (strOfNums (paintP (sizeSame R C q d fn tn) q d f t))) w' ∧ Below w1.heap.size w1 w' from fun al a2 c2 a3 c3 W hs hr2 hr3 hc3 hb => by
      rcases hr3.2 with h0 | ⟨tb, toff, rfl, htb, hct⟩
      · omega
      · exact (refPaint a2 fn c2 f tb toff tn c3 t q d al (sizeSame R C q d fn tn) W ⟨by omega, by omega⟩ ⟨by omega, by omega⟩ HTN.out hc3 (by omega) hs hr2 hr3.1 htb hct HALL.out).mono fun e w' ⟨v, he, ho, hbw⟩ => ⟨v, he, conv_bytesV (own_bytesV ho), hb.trans (hbw.mono hb.size)⟩)
    have KS2 := Lib.hid (show ∀ W : World, Below w1.heap.size w1 W → (Below w1.heap.size w1 W ∧ (convert 26 9 vb).run Tryz.prog W = .ok (.string (strOfNums (paintP (sizeSame R C q d fn tn) q d f t))) W ∧ W.cell? ⟨w.heap.size, 0, none⟩ = some (.int .i64 R) ∧ W.cell? ⟨w.heap.size, 1, none⟩ = some (.int .i64 C) ∧ W.cell? ⟨w.heap.size, 2, none⟩ = some (.slice fa fn fc) ∧ W.cell? ⟨w.heap.size + 1, 0, none⟩ = some (.int .i64 q) ∧ W.cell? ⟨w.heap.size + 1, 1, none⟩ = some (.int .i64 d) ∧ W.cell? ⟨w.heap.size + 1, 2, none⟩ = some (.slice ta tn tc)) from fun W hb => by
      obtain ⟨_, hrest⟩ := KS.out W hb
      exact ⟨hb, KB.out W hb, hrest⟩)
    clear hp' hq1 hq60 hd1 hd60 hqd hcells htn hv hv'

    go_wp2_with fail
    go_region_held3 (fun W => Below w1.heap.size w1 W ∧ W.cell? ⟨w.heap.size, 0, none⟩ = some (.int .i64 R) ∧ W.cell? ⟨w.heap.size, 1, none⟩ = some (.int .i64 C) ∧ W.cell? ⟨w.heap.size, 2, none⟩ = some (.slice fa fn fc) ∧ W.cell? ⟨w.heap.size + 1, 0, none⟩ = some (.int .i64 q) ∧ W.cell? ⟨w.heap.size + 1, 1, none⟩ = some (.int .i64 d) ∧ W.cell? ⟨w.heap.size + 1, 2, none⟩ = some (.slice ta tn tc))
      (first | exact KS.out _ (Below.refl _ _).drew | exact KS.out _ (by assumption) | assumption)
      (first
        | (go_at_call 7; (with_reducible refine (KT.out _ (And.left (by assumption))).mono ?_); rintro e w2 ⟨a2, c2, rfl, hr2, hc2, hq2, hb2⟩)
        | (go_at_call 6; (with_reducible refine (KP.out _ _ _ (by assumption) (And.left (by assumption))).mono ?_); rintro e w3 ⟨b3, rfl, hi3, hb3⟩))
    obtain rfl : b3 = true := hi3.2 HP.out
    obtain ⟨_, z0, z1, z2, z3, z4, z5⟩ := KS.out w3 hb3
    have HB3 := Lib.hid hb3
    clear hb3 hi3 hr2 hc2 hq2 hb2
    by_cases hRQ : R = (q : Int)
    · have hR : (R == (q : Int)) = true := by simp [hRQ]
      by_cases hCD : C = (d : Int)
      · have hC : (C == (d : Int)) = true := by simp [hCD]
        go_wp2_with (go_at_call 8; (with_reducible refine (KPP.out _ HB3.out).mono ?_); rintro e w4 ⟨b4, rfl, hi4, hb4⟩; have HB4 := Lib.hid hb4; obtain ⟨_, m0, m1, m2, m3, m4, m5⟩ := KS.out w4 hb4; clear hb4; obtain rfl : b4 = true := hi4.2 HP.out; clear hi4)
        have hal : sizeSame R C q d fn tn = (true && decide (fn = tn)) := by simp [sizeSame, hRQ, hCD]
        have HAL := Lib.hid hal
        have KS4 := Lib.hid (fun W (hb : Below w4.heap.size w4 W) => KS2.out W (HB4.out.trans (hb.mono HB4.out.size)))
        clear hal

        refine wp_region_held_drew (S := (fun W => Below w1.heap.size w1 W ∧ (convert 26 9 vb).run Tryz.prog W = .ok (.string (strOfNums (paintP (sizeSame R C q d fn tn) q d f t))) W ∧ W.cell? ⟨w.heap.size, 0, none⟩ = some (.int .i64 R) ∧ W.cell? ⟨w.heap.size, 1, none⟩ = some (.int .i64 C) ∧ W.cell? ⟨w.heap.size, 2, none⟩ = some (.slice fa fn fc) ∧ W.cell? ⟨w.heap.size + 1, 0, none⟩ = some (.int .i64 q) ∧ W.cell? ⟨w.heap.size + 1, 1, none⟩ = some (.int .i64 d) ∧ W.cell? ⟨w.heap.size + 1, 2, none⟩ = some (.slice ta tn tc))) (by kernel_rfl) ?_ (fun hHeld => ?_)
        · (first | exact KS4.out _ (Below.refl _ _).drew | exact KS2.out _ (by assumption) | assumption)
        refine wpAnyH_take (i := 0) (oi := { dst := some 61, op := Op.move (Operand.tmp 5), type := 26, pos := "law.go:65", after := #[], guard := none }) (v := ?_) rfl (by kernel_rfl) (by kernel_rfl) (by kernel_rfl) (fun _ _ _ h => h) (Or.inl ⟨by rfl, ?_⟩) (by assumption) ?_
        rotate_left
        · (intro w hSw; (try dsimp only at hSw); go_simp; try with_reducible rfl)
        (try simp only [Act.put, List.setIfInBounds_toArray, List.set_cons_zero, List.set_cons_succ])
        refine wpAnyH_take (i := 1) (oi := { dst := some 62, op := Op.convert 26 9 (Operand.tmp 61), type := 9, pos := "law.go:65", after := #[{ on := 0, ground := Ground.data }], guard := none }) (v := ?_) rfl (by kernel_rfl) (by kernel_rfl) (by kernel_rfl) (fun _ _ _ h => h) (Or.inl ⟨by rfl, ?_⟩) (by assumption) ?_
        rotate_left
        · (intro w hSw; (try dsimp only at hSw); go_simp; try with_reducible rfl)
        (try simp only [Act.put, List.setIfInBounds_toArray, List.set_cons_zero, List.set_cons_succ])
        refine wpAnyH_take (i := 2) (oi := { dst := some 63, op := Op.load 24 (Operand.tmp 2), type := 24, pos := "law.go:65", after := #[], guard := none }) (v := ?_) rfl (by kernel_rfl) (by kernel_rfl) (by kernel_rfl) (fun _ _ _ h => h) (Or.inl ⟨by rfl, ?_⟩) (by assumption) ?_
        rotate_left
        · (intro w hSw; (try dsimp only at hSw); go_simp; try with_reducible rfl)
        (try simp only [Act.put, List.setIfInBounds_toArray, List.set_cons_zero, List.set_cons_succ])
        refine wpAnyH_take (i := 4) (oi := { dst := some 65, op := Op.load 24 (Operand.tmp 3), type := 24, pos := "law.go:65", after := #[], guard := none }) (v := ?_) rfl (by kernel_rfl) (by kernel_rfl) (by kernel_rfl) (fun _ _ _ h => h) (Or.inl ⟨by rfl, ?_⟩) (by assumption) ?_
        rotate_left
        · (intro w hSw; (try dsimp only at hSw); go_simp; try with_reducible rfl)
        (try simp only [Act.put, List.setIfInBounds_toArray, List.set_cons_zero, List.set_cons_succ])
        refine wpAnyH_take (i := 6) (oi := { dst := some 67, op := Op.fieldAddr 24 (Operand.tmp 3) 0, type := 0, pos := "law.go:65", after := #[], guard := none }) (v := ?_) rfl (by kernel_rfl) (by kernel_rfl) (by kernel_rfl) (fun _ _ _ h => h) (Or.inl ⟨by rfl, ?_⟩) (by assumption) ?_
        rotate_left
        · (intro w hSw; (try dsimp only at hSw); go_simp; try with_reducible rfl)
        (try simp only [Act.put, List.setIfInBounds_toArray, List.set_cons_zero, List.set_cons_succ])
        refine wpAnyH_take (i := 7) (oi := { dst := some 68, op := Op.load 3 (Operand.tmp 67), type := 3, pos := "law.go:65", after := #[{ on := 6, ground := Ground.data }], guard := none }) (v := ?_) rfl (by kernel_rfl) (by kernel_rfl) (by kernel_rfl) (fun _ _ _ h => h) (Or.inl ⟨by rfl, ?_⟩) (by assumption) ?_
        rotate_left
        · (intro w hSw; (try dsimp only at hSw); go_simp; try with_reducible rfl)
        (try simp only [Act.put, List.setIfInBounds_toArray, List.set_cons_zero, List.set_cons_succ])
        refine wpAnyH_take (i := 8) (oi := { dst := some 69, op := Op.fieldAddr 24 (Operand.tmp 3) 1, type := 0, pos := "law.go:65", after := #[], guard := none }) (v := ?_) rfl (by kernel_rfl) (by kernel_rfl) (by kernel_rfl) (fun _ _ _ h => h) (Or.inl ⟨by rfl, ?_⟩) (by assumption) ?_
        rotate_left
        · (intro w hSw; (try dsimp only at hSw); go_simp; try with_reducible rfl)
        (try simp only [Act.put, List.setIfInBounds_toArray, List.set_cons_zero, List.set_cons_succ])
        refine wpAnyH_take (i := 9) (oi := { dst := some 70, op := Op.load 3 (Operand.tmp 69), type := 3, pos := "law.go:65", after := #[{ on := 8, ground := Ground.data }], guard := none }) (v := ?_) rfl (by kernel_rfl) (by kernel_rfl) (by kernel_rfl) (fun _ _ _ h => h) (Or.inl ⟨by rfl, ?_⟩) (by assumption) ?_
        rotate_left
        · (intro w hSw; (try dsimp only at hSw); go_simp; try with_reducible rfl)
        (try simp only [Act.put, List.setIfInBounds_toArray, List.set_cons_zero, List.set_cons_succ])
        refine wpAnyH_take (i := 10) (oi := { dst := some 71, op := Op.move (Operand.tmp 8), type := 4, pos := "law.go:65", after := #[], guard := none }) (v := ?_) rfl (by kernel_rfl) (by kernel_rfl) (by kernel_rfl) (fun _ _ _ h => h) (Or.inl ⟨by rfl, ?_⟩) (by assumption) ?_
        rotate_left
        · (intro w hSw; (try dsimp only at hSw); go_simp; try with_reducible rfl)
        (try simp only [Act.put, List.setIfInBounds_toArray, List.set_cons_zero, List.set_cons_succ])
        refine wpAnyH_ready (rs := [3]) (by kernel_rfl) (by simp) ?_
        refine AllReadyH.cons (o := { dst := some 64, op := Op.call { callee := Callee.value (Operand.func 7), args := #[Operand.tmp 63], argTypes := #[24] }, type := 31, pos := "law.go:65", after := #[{ on := 2, ground := Ground.data }], guard := none }) rfl (fun K hK => ?_) AllReadyH.nil
        (go_simp; go_at_call 7; (with_reducible refine (KF.out _ _ _ hHeld.1).mono ?_); rintro e w5 ⟨a5, c5, rfl, hr5, hc5, hq5, hb5⟩; go_wp2_with fail)
        refine hK.out _ _ ?_ (fun hHeld2 => ?_)
        · (first | exact KS4.out _ (Below.refl _ _).drew | exact KS2.out _ (by assumption) | assumption)
        clear hK K
        (try simp only [Act.put, List.setIfInBounds_toArray, List.set_cons_zero, List.set_cons_succ])
        clear hHeld; have hHeld := hHeld2; clear hHeld2
        refine wpAnyH_ready (rs := [5]) (by kernel_rfl) (by simp) ?_
        refine AllReadyH.cons (o := { dst := some 66, op := Op.call { callee := Callee.value (Operand.func 7), args := #[Operand.tmp 65], argTypes := #[24] }, type := 31, pos := "law.go:65", after := #[{ on := 4, ground := Ground.data }, { on := 3, ground := Ground.chain }], guard := none }) rfl (fun K hK => ?_) AllReadyH.nil
        (go_simp; go_at_call 7; (with_reducible refine (KT.out _ hHeld.1).mono ?_); rintro e w6 ⟨a6, c6, rfl, hr6, hc6, hq6, hb6⟩; go_wp2_with fail)
        refine hK.out _ _ ?_ (fun hHeld2 => ?_)
        · (first | exact KS4.out _ (Below.refl _ _).drew | exact KS2.out _ (by assumption) | assumption)
        clear hK K
        (try simp only [Act.put, List.setIfInBounds_toArray, List.set_cons_zero, List.set_cons_succ])
        clear hHeld; have hHeld := hHeld2; clear hHeld2
        refine wpAnyH_ready (rs := [11]) (by kernel_rfl) (by simp) ?_
        refine AllReadyH.cons (o := { dst := some 72, op := Op.call { callee := Callee.value (Operand.func 9), args := #[Operand.tmp 64, Operand.tmp 66, Operand.tmp 68, Operand.tmp 70, Operand.tmp 71], argTypes := #[31, 31, 3, 3, 4] }, type := 26, pos := "law.go:65", after := #[{ on := 3, ground := Ground.data }, { on := 5, ground := Ground.data }, { on := 7, ground := Ground.data }, { on := 9, ground := Ground.data }, { on := 10, ground := Ground.data }, { on := 5, ground := Ground.chain }], guard := none }) rfl (fun K hK => ?_) AllReadyH.nil
        (go_simp; go_at_call 9; (with_reducible refine (KR.out _ _ _ _ _ _ HAL.out (hr5.below hq6) hr6 hc6 hb6).mono ?_); rintro e w7 ⟨v7, rfl, hk7, hb7⟩; go_wp2_with fail)
        refine hK.out _ _ ?_ (fun hHeld2 => ?_)
        · (first | exact KS4.out _ (Below.refl _ _).drew | exact KS2.out _ (by assumption) | assumption)
        clear hK K
        (try simp only [Act.put, List.setIfInBounds_toArray, List.set_cons_zero, List.set_cons_succ])
        clear hHeld; have hHeld := hHeld2; clear hHeld2
        refine wpAnyH_ready (rs := [12]) (by kernel_rfl) (by simp) ?_
        refine AllReadyH.cons (o := { dst := some 73, op := Op.convert 26 9 (Operand.tmp 72), type := 9, pos := "law.go:65", after := #[{ on := 11, ground := Ground.data }], guard := none }) rfl (fun K hK => ?_) AllReadyH.nil
        (go_simp)
        refine hK.out _ _ ?_ (fun hHeld2 => ?_)
        · (first | exact KS4.out _ (Below.refl _ _).drew | exact KS2.out _ (by assumption) | assumption)
        clear hK K
        (try simp only [Act.put, List.setIfInBounds_toArray, List.set_cons_zero, List.set_cons_succ])
        clear hHeld; have hHeld := hHeld2; clear hHeld2
        refine wpAnyH_take (i := 13) (oi := { dst := some 74, op := Op.binOp BinOp.eql 9 (Operand.tmp 62) (Operand.tmp 73) 9, type := 4, pos := "law.go:65", after := #[{ on := 1, ground := Ground.data }, { on := 12, ground := Ground.data }], guard := none }) (v := ?_) rfl (by kernel_rfl) (by kernel_rfl) (by kernel_rfl) (fun _ _ _ h => h) (Or.inl ⟨by rfl, ?_⟩) (by assumption) ?_
        rotate_left
        · (intro w hSw; (try dsimp only at hSw); go_simp; try with_reducible rfl)
        (try simp only [Act.put, List.setIfInBounds_toArray, List.set_cons_zero, List.set_cons_succ])
        refine wpAnyH_take (i := 14) (oi := { dst := some 75, op := Op.move (Operand.tmp 74), type := 4, pos := "law.go:65", after := #[{ on := 13, ground := Ground.data }, { on := 11, ground := Ground.chain }], guard := none }) (v := ?_) rfl (by kernel_rfl) (by kernel_rfl) (by kernel_rfl) (fun _ _ _ h => h) (Or.inl ⟨by rfl, ?_⟩) (by assumption) ?_
        rotate_left
        · (intro w hSw; (try dsimp only at hSw); go_simp; try with_reducible rfl)
        (try simp only [Act.put, List.setIfInBounds_toArray, List.set_cons_zero, List.set_cons_succ])
        refine wpAnyH_take (i := 15) (oi := { dst := some 76, op := Op.move (Operand.tmp 6), type := 27, pos := "law.go:65", after := #[{ on := 14, ground := Ground.guard }], guard := some (14, true) }) (v := ?_) rfl (by kernel_rfl) (by kernel_rfl) (by kernel_rfl) (fun _ _ _ h => h) (Or.inl ⟨by rfl, ?_⟩) (by assumption) ?_
        rotate_left
        · (intro w hSw; (try dsimp only at hSw); go_simp; try with_reducible rfl)
        (try simp only [Act.put, List.setIfInBounds_toArray, List.set_cons_zero, List.set_cons_succ])
        refine wpAnyH_take (i := 16) (oi := { dst := some 77, op := Op.binOp BinOp.eql 27 (Operand.tmp 76) (Operand.const (Value.int IntKind.i64 0)) 27, type := 4, pos := "law.go:65", after := #[{ on := 15, ground := Ground.data }, { on := 14, ground := Ground.guard }], guard := some (14, true) }) (v := ?_) rfl (by kernel_rfl) (by kernel_rfl) (by kernel_rfl) (fun _ _ _ h => h) (Or.inl ⟨by rfl, ?_⟩) (by assumption) ?_
        rotate_left
        · (intro w hSw; (try dsimp only at hSw); go_simp; try with_reducible rfl)
        (try simp only [Act.put, List.setIfInBounds_toArray, List.set_cons_zero, List.set_cons_succ])
        refine wpAnyH_take (i := 17) (oi := { dst := some 78, op := Op.pick (Operand.tmp 75) (Operand.tmp 77) (Operand.const (Value.bool false)), type := 4, pos := "law.go:65", after := #[{ on := 14, ground := Ground.data }, { on := 16, ground := Ground.data }], guard := none }) (v := ?_) rfl (by kernel_rfl) (by kernel_rfl) (by kernel_rfl) (fun _ _ _ h => h) (Or.inl ⟨by rfl, ?_⟩) (by assumption) ?_
        rotate_left
        · (intro w hSw; (try dsimp only at hSw); go_simp; try with_reducible rfl)
        (try simp only [Act.put, List.setIfInBounds_toArray, List.set_cons_zero, List.set_cons_succ])
        refine wpAnyH_take (i := 18) (oi := { dst := some 79, op := Op.move (Operand.tmp 78), type := 4, pos := "law.go:65", after := #[{ on := 17, ground := Ground.data }, { on := 14, ground := Ground.chain }], guard := none }) (v := ?_) rfl (by kernel_rfl) (by kernel_rfl) (by kernel_rfl) (fun _ _ _ h => h) (Or.inl ⟨by rfl, ?_⟩) (by assumption) ?_
        rotate_left
        · (intro w hSw; (try dsimp only at hSw); go_simp; try with_reducible rfl)
        (try simp only [Act.put, List.setIfInBounds_toArray, List.set_cons_zero, List.set_cons_succ])
        refine wpAnyH_ready (rs := [19]) (by kernel_rfl) (by simp) ?_
        refine AllReadyH.cons (o := { dst := some 80, op := Op.call { callee := Callee.value (Operand.func 4), args := #[], argTypes := #[] }, type := 4, pos := "law.go:65", after := #[{ on := 18, ground := Ground.chain }, { on := 18, ground := Ground.guard }], guard := some (18, true) }) rfl (fun K hK => ?_) AllReadyH.nil
        (go_simp; go_at_call 4; (with_reducible refine (KN.out _ hHeld.1).mono ?_); rintro e w8 ⟨rfl, hb8⟩; go_wp2_with fail)
        refine hK.out _ _ ?_ (fun hHeld2 => ?_)
        · (first | exact KS4.out _ (Below.refl _ _).drew | exact KS2.out _ (by assumption) | assumption)
        clear hK K
        (try simp only [Act.put, List.setIfInBounds_toArray, List.set_cons_zero, List.set_cons_succ])
        clear hHeld; have hHeld := hHeld2; clear hHeld2
        refine wpAnyH_take (i := 20) (oi := { dst := some 81, op := Op.pick (Operand.tmp 79) (Operand.tmp 80) (Operand.const (Value.bool false)), type := 4, pos := "law.go:65", after := #[{ on := 18, ground := Ground.data }, { on := 19, ground := Ground.data }], guard := none }) (v := ?_) rfl (by kernel_rfl) (by kernel_rfl) (by kernel_rfl) (fun _ _ _ h => h) (Or.inl ⟨by rfl, ?_⟩) (by assumption) ?_
        rotate_left
        · (intro w hSw; (try dsimp only at hSw); go_simp; try with_reducible rfl)
        (try simp only [Act.put, List.setIfInBounds_toArray, List.set_cons_zero, List.set_cons_succ])
        refine wpAnyH_take (i := 21) (oi := { dst := some 4, op := Op.assign (Operand.tmp 81), type := 4, pos := "law.go:65", after := #[{ on := 20, ground := Ground.data }, { on := 19, ground := Ground.chain }, { on := 0, ground := Ground.phase }, { on := 1, ground := Ground.phase }, { on := 2, ground := Ground.phase }, { on := 3, ground := Ground.phase }, { on := 4, ground := Ground.phase }, { on := 5, ground := Ground.phase }, { on := 6, ground := Ground.phase }, { on := 7, ground := Ground.phase }, { on := 8, ground := Ground.phase }, { on := 9, ground := Ground.phase }, { on := 10, ground := Ground.phase }, { on := 11, ground := Ground.phase }, { on := 12, ground := Ground.phase }, { on := 13, ground := Ground.phase }, { on := 14, ground := Ground.phase }, { on := 15, ground := Ground.phase }, { on := 16, ground := Ground.phase }, { on := 17, ground := Ground.phase }, { on := 18, ground := Ground.phase }, { on := 19, ground := Ground.phase }, { on := 20, ground := Ground.phase }], guard := none }) (v := ?_) rfl (by kernel_rfl) (by kernel_rfl) (by kernel_rfl) (fun _ _ _ h => h) (Or.inl ⟨by rfl, ?_⟩) (by assumption) ?_
        rotate_left
        · (intro w hSw; (try dsimp only at hSw); go_simp; try with_reducible rfl)
        (try simp only [Act.put, List.setIfInBounds_toArray, List.set_cons_zero, List.set_cons_succ])
        refine wpAnyH_done (by kernel_rfl) ?_ _
        clear hHeld
        go_wp2
        go_ret
        exact ⟨rfl, (HBV.out.trans (HB1.out.mono (by omega))).trans (hb8.mono (by omega))⟩
      · have hC : (C == (d : Int)) = false := by simp [hCD]
        go_wp2_with (go_at_call 8; (with_reducible refine (KPP.out _ HB3.out).mono ?_); rintro e w4 ⟨b4, rfl, hi4, hb4⟩; have HB4 := Lib.hid hb4; obtain ⟨_, m0, m1, m2, m3, m4, m5⟩ := KS.out w4 hb4; clear hb4; obtain rfl : b4 = true := hi4.2 HP.out; clear hi4)
        have hal : sizeSame R C q d fn tn = (false && decide (fn = tn)) := by simp [sizeSame, hCD]
        have HAL := Lib.hid hal
        have KS4 := Lib.hid (fun W (hb : Below w4.heap.size w4 W) => KS2.out W (HB4.out.trans (hb.mono HB4.out.size)))
        clear hal

        refine wp_region_held_drew (S := (fun W => Below w1.heap.size w1 W ∧ (convert 26 9 vb).run Tryz.prog W = .ok (.string (strOfNums (paintP (sizeSame R C q d fn tn) q d f t))) W ∧ W.cell? ⟨w.heap.size, 0, none⟩ = some (.int .i64 R) ∧ W.cell? ⟨w.heap.size, 1, none⟩ = some (.int .i64 C) ∧ W.cell? ⟨w.heap.size, 2, none⟩ = some (.slice fa fn fc) ∧ W.cell? ⟨w.heap.size + 1, 0, none⟩ = some (.int .i64 q) ∧ W.cell? ⟨w.heap.size + 1, 1, none⟩ = some (.int .i64 d) ∧ W.cell? ⟨w.heap.size + 1, 2, none⟩ = some (.slice ta tn tc))) (by kernel_rfl) ?_ (fun hHeld => ?_)
        · (first | exact KS4.out _ (Below.refl _ _).drew | exact KS2.out _ (by assumption) | assumption)
        refine wpAnyH_take (i := 0) (oi := { dst := some 61, op := Op.move (Operand.tmp 5), type := 26, pos := "law.go:65", after := #[], guard := none }) (v := ?_) rfl (by kernel_rfl) (by kernel_rfl) (by kernel_rfl) (fun _ _ _ h => h) (Or.inl ⟨by rfl, ?_⟩) (by assumption) ?_
        rotate_left
        · (intro w hSw; (try dsimp only at hSw); go_simp; try with_reducible rfl)
        (try simp only [Act.put, List.setIfInBounds_toArray, List.set_cons_zero, List.set_cons_succ])
        refine wpAnyH_take (i := 1) (oi := { dst := some 62, op := Op.convert 26 9 (Operand.tmp 61), type := 9, pos := "law.go:65", after := #[{ on := 0, ground := Ground.data }], guard := none }) (v := ?_) rfl (by kernel_rfl) (by kernel_rfl) (by kernel_rfl) (fun _ _ _ h => h) (Or.inl ⟨by rfl, ?_⟩) (by assumption) ?_
        rotate_left
        · (intro w hSw; (try dsimp only at hSw); go_simp; try with_reducible rfl)
        (try simp only [Act.put, List.setIfInBounds_toArray, List.set_cons_zero, List.set_cons_succ])
        refine wpAnyH_take (i := 2) (oi := { dst := some 63, op := Op.load 24 (Operand.tmp 2), type := 24, pos := "law.go:65", after := #[], guard := none }) (v := ?_) rfl (by kernel_rfl) (by kernel_rfl) (by kernel_rfl) (fun _ _ _ h => h) (Or.inl ⟨by rfl, ?_⟩) (by assumption) ?_
        rotate_left
        · (intro w hSw; (try dsimp only at hSw); go_simp; try with_reducible rfl)
        (try simp only [Act.put, List.setIfInBounds_toArray, List.set_cons_zero, List.set_cons_succ])
        refine wpAnyH_take (i := 4) (oi := { dst := some 65, op := Op.load 24 (Operand.tmp 3), type := 24, pos := "law.go:65", after := #[], guard := none }) (v := ?_) rfl (by kernel_rfl) (by kernel_rfl) (by kernel_rfl) (fun _ _ _ h => h) (Or.inl ⟨by rfl, ?_⟩) (by assumption) ?_
        rotate_left
        · (intro w hSw; (try dsimp only at hSw); go_simp; try with_reducible rfl)
        (try simp only [Act.put, List.setIfInBounds_toArray, List.set_cons_zero, List.set_cons_succ])
        refine wpAnyH_take (i := 6) (oi := { dst := some 67, op := Op.fieldAddr 24 (Operand.tmp 3) 0, type := 0, pos := "law.go:65", after := #[], guard := none }) (v := ?_) rfl (by kernel_rfl) (by kernel_rfl) (by kernel_rfl) (fun _ _ _ h => h) (Or.inl ⟨by rfl, ?_⟩) (by assumption) ?_
        rotate_left
        · (intro w hSw; (try dsimp only at hSw); go_simp; try with_reducible rfl)
        (try simp only [Act.put, List.setIfInBounds_toArray, List.set_cons_zero, List.set_cons_succ])
        refine wpAnyH_take (i := 7) (oi := { dst := some 68, op := Op.load 3 (Operand.tmp 67), type := 3, pos := "law.go:65", after := #[{ on := 6, ground := Ground.data }], guard := none }) (v := ?_) rfl (by kernel_rfl) (by kernel_rfl) (by kernel_rfl) (fun _ _ _ h => h) (Or.inl ⟨by rfl, ?_⟩) (by assumption) ?_
        rotate_left
        · (intro w hSw; (try dsimp only at hSw); go_simp; try with_reducible rfl)
        (try simp only [Act.put, List.setIfInBounds_toArray, List.set_cons_zero, List.set_cons_succ])
        refine wpAnyH_take (i := 8) (oi := { dst := some 69, op := Op.fieldAddr 24 (Operand.tmp 3) 1, type := 0, pos := "law.go:65", after := #[], guard := none }) (v := ?_) rfl (by kernel_rfl) (by kernel_rfl) (by kernel_rfl) (fun _ _ _ h => h) (Or.inl ⟨by rfl, ?_⟩) (by assumption) ?_
        rotate_left
        · (intro w hSw; (try dsimp only at hSw); go_simp; try with_reducible rfl)
        (try simp only [Act.put, List.setIfInBounds_toArray, List.set_cons_zero, List.set_cons_succ])
        refine wpAnyH_take (i := 9) (oi := { dst := some 70, op := Op.load 3 (Operand.tmp 69), type := 3, pos := "law.go:65", after := #[{ on := 8, ground := Ground.data }], guard := none }) (v := ?_) rfl (by kernel_rfl) (by kernel_rfl) (by kernel_rfl) (fun _ _ _ h => h) (Or.inl ⟨by rfl, ?_⟩) (by assumption) ?_
        rotate_left
        · (intro w hSw; (try dsimp only at hSw); go_simp; try with_reducible rfl)
        (try simp only [Act.put, List.setIfInBounds_toArray, List.set_cons_zero, List.set_cons_succ])
        refine wpAnyH_take (i := 10) (oi := { dst := some 71, op := Op.move (Operand.tmp 8), type := 4, pos := "law.go:65", after := #[], guard := none }) (v := ?_) rfl (by kernel_rfl) (by kernel_rfl) (by kernel_rfl) (fun _ _ _ h => h) (Or.inl ⟨by rfl, ?_⟩) (by assumption) ?_
        rotate_left
        · (intro w hSw; (try dsimp only at hSw); go_simp; try with_reducible rfl)
        (try simp only [Act.put, List.setIfInBounds_toArray, List.set_cons_zero, List.set_cons_succ])
        refine wpAnyH_ready (rs := [3]) (by kernel_rfl) (by simp) ?_
        refine AllReadyH.cons (o := { dst := some 64, op := Op.call { callee := Callee.value (Operand.func 7), args := #[Operand.tmp 63], argTypes := #[24] }, type := 31, pos := "law.go:65", after := #[{ on := 2, ground := Ground.data }], guard := none }) rfl (fun K hK => ?_) AllReadyH.nil
        (go_simp; go_at_call 7; (with_reducible refine (KF.out _ _ _ hHeld.1).mono ?_); rintro e w5 ⟨a5, c5, rfl, hr5, hc5, hq5, hb5⟩; go_wp2_with fail)
        refine hK.out _ _ ?_ (fun hHeld2 => ?_)
        · (first | exact KS4.out _ (Below.refl _ _).drew | exact KS2.out _ (by assumption) | assumption)
        clear hK K
        (try simp only [Act.put, List.setIfInBounds_toArray, List.set_cons_zero, List.set_cons_succ])
        clear hHeld; have hHeld := hHeld2; clear hHeld2
        refine wpAnyH_ready (rs := [5]) (by kernel_rfl) (by simp) ?_
        refine AllReadyH.cons (o := { dst := some 66, op := Op.call { callee := Callee.value (Operand.func 7), args := #[Operand.tmp 65], argTypes := #[24] }, type := 31, pos := "law.go:65", after := #[{ on := 4, ground := Ground.data }, { on := 3, ground := Ground.chain }], guard := none }) rfl (fun K hK => ?_) AllReadyH.nil
        (go_simp; go_at_call 7; (with_reducible refine (KT.out _ hHeld.1).mono ?_); rintro e w6 ⟨a6, c6, rfl, hr6, hc6, hq6, hb6⟩; go_wp2_with fail)
        refine hK.out _ _ ?_ (fun hHeld2 => ?_)
        · (first | exact KS4.out _ (Below.refl _ _).drew | exact KS2.out _ (by assumption) | assumption)
        clear hK K
        (try simp only [Act.put, List.setIfInBounds_toArray, List.set_cons_zero, List.set_cons_succ])
        clear hHeld; have hHeld := hHeld2; clear hHeld2
        refine wpAnyH_ready (rs := [11]) (by kernel_rfl) (by simp) ?_
        refine AllReadyH.cons (o := { dst := some 72, op := Op.call { callee := Callee.value (Operand.func 9), args := #[Operand.tmp 64, Operand.tmp 66, Operand.tmp 68, Operand.tmp 70, Operand.tmp 71], argTypes := #[31, 31, 3, 3, 4] }, type := 26, pos := "law.go:65", after := #[{ on := 3, ground := Ground.data }, { on := 5, ground := Ground.data }, { on := 7, ground := Ground.data }, { on := 9, ground := Ground.data }, { on := 10, ground := Ground.data }, { on := 5, ground := Ground.chain }], guard := none }) rfl (fun K hK => ?_) AllReadyH.nil
        (go_simp; go_at_call 9; (with_reducible refine (KR.out _ _ _ _ _ _ HAL.out (hr5.below hq6) hr6 hc6 hb6).mono ?_); rintro e w7 ⟨v7, rfl, hk7, hb7⟩; go_wp2_with fail)
        refine hK.out _ _ ?_ (fun hHeld2 => ?_)
        · (first | exact KS4.out _ (Below.refl _ _).drew | exact KS2.out _ (by assumption) | assumption)
        clear hK K
        (try simp only [Act.put, List.setIfInBounds_toArray, List.set_cons_zero, List.set_cons_succ])
        clear hHeld; have hHeld := hHeld2; clear hHeld2
        refine wpAnyH_ready (rs := [12]) (by kernel_rfl) (by simp) ?_
        refine AllReadyH.cons (o := { dst := some 73, op := Op.convert 26 9 (Operand.tmp 72), type := 9, pos := "law.go:65", after := #[{ on := 11, ground := Ground.data }], guard := none }) rfl (fun K hK => ?_) AllReadyH.nil
        (go_simp)
        refine hK.out _ _ ?_ (fun hHeld2 => ?_)
        · (first | exact KS4.out _ (Below.refl _ _).drew | exact KS2.out _ (by assumption) | assumption)
        clear hK K
        (try simp only [Act.put, List.setIfInBounds_toArray, List.set_cons_zero, List.set_cons_succ])
        clear hHeld; have hHeld := hHeld2; clear hHeld2
        refine wpAnyH_take (i := 13) (oi := { dst := some 74, op := Op.binOp BinOp.eql 9 (Operand.tmp 62) (Operand.tmp 73) 9, type := 4, pos := "law.go:65", after := #[{ on := 1, ground := Ground.data }, { on := 12, ground := Ground.data }], guard := none }) (v := ?_) rfl (by kernel_rfl) (by kernel_rfl) (by kernel_rfl) (fun _ _ _ h => h) (Or.inl ⟨by rfl, ?_⟩) (by assumption) ?_
        rotate_left
        · (intro w hSw; (try dsimp only at hSw); go_simp; try with_reducible rfl)
        (try simp only [Act.put, List.setIfInBounds_toArray, List.set_cons_zero, List.set_cons_succ])
        refine wpAnyH_take (i := 14) (oi := { dst := some 75, op := Op.move (Operand.tmp 74), type := 4, pos := "law.go:65", after := #[{ on := 13, ground := Ground.data }, { on := 11, ground := Ground.chain }], guard := none }) (v := ?_) rfl (by kernel_rfl) (by kernel_rfl) (by kernel_rfl) (fun _ _ _ h => h) (Or.inl ⟨by rfl, ?_⟩) (by assumption) ?_
        rotate_left
        · (intro w hSw; (try dsimp only at hSw); go_simp; try with_reducible rfl)
        (try simp only [Act.put, List.setIfInBounds_toArray, List.set_cons_zero, List.set_cons_succ])
        refine wpAnyH_take (i := 15) (oi := { dst := some 76, op := Op.move (Operand.tmp 6), type := 27, pos := "law.go:65", after := #[{ on := 14, ground := Ground.guard }], guard := some (14, true) }) (v := ?_) rfl (by kernel_rfl) (by kernel_rfl) (by kernel_rfl) (fun _ _ _ h => h) (Or.inl ⟨by rfl, ?_⟩) (by assumption) ?_
        rotate_left
        · (intro w hSw; (try dsimp only at hSw); go_simp; try with_reducible rfl)
        (try simp only [Act.put, List.setIfInBounds_toArray, List.set_cons_zero, List.set_cons_succ])
        refine wpAnyH_take (i := 16) (oi := { dst := some 77, op := Op.binOp BinOp.eql 27 (Operand.tmp 76) (Operand.const (Value.int IntKind.i64 0)) 27, type := 4, pos := "law.go:65", after := #[{ on := 15, ground := Ground.data }, { on := 14, ground := Ground.guard }], guard := some (14, true) }) (v := ?_) rfl (by kernel_rfl) (by kernel_rfl) (by kernel_rfl) (fun _ _ _ h => h) (Or.inl ⟨by rfl, ?_⟩) (by assumption) ?_
        rotate_left
        · (intro w hSw; (try dsimp only at hSw); go_simp; try with_reducible rfl)
        (try simp only [Act.put, List.setIfInBounds_toArray, List.set_cons_zero, List.set_cons_succ])
        refine wpAnyH_take (i := 17) (oi := { dst := some 78, op := Op.pick (Operand.tmp 75) (Operand.tmp 77) (Operand.const (Value.bool false)), type := 4, pos := "law.go:65", after := #[{ on := 14, ground := Ground.data }, { on := 16, ground := Ground.data }], guard := none }) (v := ?_) rfl (by kernel_rfl) (by kernel_rfl) (by kernel_rfl) (fun _ _ _ h => h) (Or.inl ⟨by rfl, ?_⟩) (by assumption) ?_
        rotate_left
        · (intro w hSw; (try dsimp only at hSw); go_simp; try with_reducible rfl)
        (try simp only [Act.put, List.setIfInBounds_toArray, List.set_cons_zero, List.set_cons_succ])
        refine wpAnyH_take (i := 18) (oi := { dst := some 79, op := Op.move (Operand.tmp 78), type := 4, pos := "law.go:65", after := #[{ on := 17, ground := Ground.data }, { on := 14, ground := Ground.chain }], guard := none }) (v := ?_) rfl (by kernel_rfl) (by kernel_rfl) (by kernel_rfl) (fun _ _ _ h => h) (Or.inl ⟨by rfl, ?_⟩) (by assumption) ?_
        rotate_left
        · (intro w hSw; (try dsimp only at hSw); go_simp; try with_reducible rfl)
        (try simp only [Act.put, List.setIfInBounds_toArray, List.set_cons_zero, List.set_cons_succ])
        refine wpAnyH_ready (rs := [19]) (by kernel_rfl) (by simp) ?_
        refine AllReadyH.cons (o := { dst := some 80, op := Op.call { callee := Callee.value (Operand.func 4), args := #[], argTypes := #[] }, type := 4, pos := "law.go:65", after := #[{ on := 18, ground := Ground.chain }, { on := 18, ground := Ground.guard }], guard := some (18, true) }) rfl (fun K hK => ?_) AllReadyH.nil
        (go_simp; go_at_call 4; (with_reducible refine (KN.out _ hHeld.1).mono ?_); rintro e w8 ⟨rfl, hb8⟩; go_wp2_with fail)
        refine hK.out _ _ ?_ (fun hHeld2 => ?_)
        · (first | exact KS4.out _ (Below.refl _ _).drew | exact KS2.out _ (by assumption) | assumption)
        clear hK K
        (try simp only [Act.put, List.setIfInBounds_toArray, List.set_cons_zero, List.set_cons_succ])
        clear hHeld; have hHeld := hHeld2; clear hHeld2
        refine wpAnyH_take (i := 20) (oi := { dst := some 81, op := Op.pick (Operand.tmp 79) (Operand.tmp 80) (Operand.const (Value.bool false)), type := 4, pos := "law.go:65", after := #[{ on := 18, ground := Ground.data }, { on := 19, ground := Ground.data }], guard := none }) (v := ?_) rfl (by kernel_rfl) (by kernel_rfl) (by kernel_rfl) (fun _ _ _ h => h) (Or.inl ⟨by rfl, ?_⟩) (by assumption) ?_
        rotate_left
        · (intro w hSw; (try dsimp only at hSw); go_simp; try with_reducible rfl)
        (try simp only [Act.put, List.setIfInBounds_toArray, List.set_cons_zero, List.set_cons_succ])
        refine wpAnyH_take (i := 21) (oi := { dst := some 4, op := Op.assign (Operand.tmp 81), type := 4, pos := "law.go:65", after := #[{ on := 20, ground := Ground.data }, { on := 19, ground := Ground.chain }, { on := 0, ground := Ground.phase }, { on := 1, ground := Ground.phase }, { on := 2, ground := Ground.phase }, { on := 3, ground := Ground.phase }, { on := 4, ground := Ground.phase }, { on := 5, ground := Ground.phase }, { on := 6, ground := Ground.phase }, { on := 7, ground := Ground.phase }, { on := 8, ground := Ground.phase }, { on := 9, ground := Ground.phase }, { on := 10, ground := Ground.phase }, { on := 11, ground := Ground.phase }, { on := 12, ground := Ground.phase }, { on := 13, ground := Ground.phase }, { on := 14, ground := Ground.phase }, { on := 15, ground := Ground.phase }, { on := 16, ground := Ground.phase }, { on := 17, ground := Ground.phase }, { on := 18, ground := Ground.phase }, { on := 19, ground := Ground.phase }, { on := 20, ground := Ground.phase }], guard := none }) (v := ?_) rfl (by kernel_rfl) (by kernel_rfl) (by kernel_rfl) (fun _ _ _ h => h) (Or.inl ⟨by rfl, ?_⟩) (by assumption) ?_
        rotate_left
        · (intro w hSw; (try dsimp only at hSw); go_simp; try with_reducible rfl)
        (try simp only [Act.put, List.setIfInBounds_toArray, List.set_cons_zero, List.set_cons_succ])
        refine wpAnyH_done (by kernel_rfl) ?_ _
        clear hHeld
        go_wp2
        go_ret
        exact ⟨rfl, (HBV.out.trans (HB1.out.mono (by omega))).trans (hb8.mono (by omega))⟩
    · have hR : (R == (q : Int)) = false := by simp [hRQ]
      go_wp2_with (go_at_call 8; (with_reducible refine (KPP.out _ HB3.out).mono ?_); rintro e w4 ⟨b4, rfl, hi4, hb4⟩; have HB4 := Lib.hid hb4; obtain ⟨_, m0, m1, m2, m3, m4, m5⟩ := KS.out w4 hb4; clear hb4; obtain rfl : b4 = true := hi4.2 HP.out; clear hi4)
      have hal : sizeSame R C q d fn tn = (false && decide (fn = tn)) := by simp [sizeSame, hRQ]
      have HAL := Lib.hid hal
      have KS4 := Lib.hid (fun W (hb : Below w4.heap.size w4 W) => KS2.out W (HB4.out.trans (hb.mono HB4.out.size)))
      clear hal

      refine wp_region_held_drew (S := (fun W => Below w1.heap.size w1 W ∧ (convert 26 9 vb).run Tryz.prog W = .ok (.string (strOfNums (paintP (sizeSame R C q d fn tn) q d f t))) W ∧ W.cell? ⟨w.heap.size, 0, none⟩ = some (.int .i64 R) ∧ W.cell? ⟨w.heap.size, 1, none⟩ = some (.int .i64 C) ∧ W.cell? ⟨w.heap.size, 2, none⟩ = some (.slice fa fn fc) ∧ W.cell? ⟨w.heap.size + 1, 0, none⟩ = some (.int .i64 q) ∧ W.cell? ⟨w.heap.size + 1, 1, none⟩ = some (.int .i64 d) ∧ W.cell? ⟨w.heap.size + 1, 2, none⟩ = some (.slice ta tn tc))) (by kernel_rfl) ?_ (fun hHeld => ?_)
      · (first | exact KS4.out _ (Below.refl _ _).drew | exact KS2.out _ (by assumption) | assumption)
      refine wpAnyH_take (i := 0) (oi := { dst := some 61, op := Op.move (Operand.tmp 5), type := 26, pos := "law.go:65", after := #[], guard := none }) (v := ?_) rfl (by kernel_rfl) (by kernel_rfl) (by kernel_rfl) (fun _ _ _ h => h) (Or.inl ⟨by rfl, ?_⟩) (by assumption) ?_
      rotate_left
      · (intro w hSw; (try dsimp only at hSw); go_simp; try with_reducible rfl)
      (try simp only [Act.put, List.setIfInBounds_toArray, List.set_cons_zero, List.set_cons_succ])
      refine wpAnyH_take (i := 1) (oi := { dst := some 62, op := Op.convert 26 9 (Operand.tmp 61), type := 9, pos := "law.go:65", after := #[{ on := 0, ground := Ground.data }], guard := none }) (v := ?_) rfl (by kernel_rfl) (by kernel_rfl) (by kernel_rfl) (fun _ _ _ h => h) (Or.inl ⟨by rfl, ?_⟩) (by assumption) ?_
      rotate_left
      · (intro w hSw; (try dsimp only at hSw); go_simp; try with_reducible rfl)
      (try simp only [Act.put, List.setIfInBounds_toArray, List.set_cons_zero, List.set_cons_succ])
      refine wpAnyH_take (i := 2) (oi := { dst := some 63, op := Op.load 24 (Operand.tmp 2), type := 24, pos := "law.go:65", after := #[], guard := none }) (v := ?_) rfl (by kernel_rfl) (by kernel_rfl) (by kernel_rfl) (fun _ _ _ h => h) (Or.inl ⟨by rfl, ?_⟩) (by assumption) ?_
      rotate_left
      · (intro w hSw; (try dsimp only at hSw); go_simp; try with_reducible rfl)
      (try simp only [Act.put, List.setIfInBounds_toArray, List.set_cons_zero, List.set_cons_succ])
      refine wpAnyH_take (i := 4) (oi := { dst := some 65, op := Op.load 24 (Operand.tmp 3), type := 24, pos := "law.go:65", after := #[], guard := none }) (v := ?_) rfl (by kernel_rfl) (by kernel_rfl) (by kernel_rfl) (fun _ _ _ h => h) (Or.inl ⟨by rfl, ?_⟩) (by assumption) ?_
      rotate_left
      · (intro w hSw; (try dsimp only at hSw); go_simp; try with_reducible rfl)
      (try simp only [Act.put, List.setIfInBounds_toArray, List.set_cons_zero, List.set_cons_succ])
      refine wpAnyH_take (i := 6) (oi := { dst := some 67, op := Op.fieldAddr 24 (Operand.tmp 3) 0, type := 0, pos := "law.go:65", after := #[], guard := none }) (v := ?_) rfl (by kernel_rfl) (by kernel_rfl) (by kernel_rfl) (fun _ _ _ h => h) (Or.inl ⟨by rfl, ?_⟩) (by assumption) ?_
      rotate_left
      · (intro w hSw; (try dsimp only at hSw); go_simp; try with_reducible rfl)
      (try simp only [Act.put, List.setIfInBounds_toArray, List.set_cons_zero, List.set_cons_succ])
      refine wpAnyH_take (i := 7) (oi := { dst := some 68, op := Op.load 3 (Operand.tmp 67), type := 3, pos := "law.go:65", after := #[{ on := 6, ground := Ground.data }], guard := none }) (v := ?_) rfl (by kernel_rfl) (by kernel_rfl) (by kernel_rfl) (fun _ _ _ h => h) (Or.inl ⟨by rfl, ?_⟩) (by assumption) ?_
      rotate_left
      · (intro w hSw; (try dsimp only at hSw); go_simp; try with_reducible rfl)
      (try simp only [Act.put, List.setIfInBounds_toArray, List.set_cons_zero, List.set_cons_succ])
      refine wpAnyH_take (i := 8) (oi := { dst := some 69, op := Op.fieldAddr 24 (Operand.tmp 3) 1, type := 0, pos := "law.go:65", after := #[], guard := none }) (v := ?_) rfl (by kernel_rfl) (by kernel_rfl) (by kernel_rfl) (fun _ _ _ h => h) (Or.inl ⟨by rfl, ?_⟩) (by assumption) ?_
      rotate_left
      · (intro w hSw; (try dsimp only at hSw); go_simp; try with_reducible rfl)
      (try simp only [Act.put, List.setIfInBounds_toArray, List.set_cons_zero, List.set_cons_succ])
      refine wpAnyH_take (i := 9) (oi := { dst := some 70, op := Op.load 3 (Operand.tmp 69), type := 3, pos := "law.go:65", after := #[{ on := 8, ground := Ground.data }], guard := none }) (v := ?_) rfl (by kernel_rfl) (by kernel_rfl) (by kernel_rfl) (fun _ _ _ h => h) (Or.inl ⟨by rfl, ?_⟩) (by assumption) ?_
      rotate_left
      · (intro w hSw; (try dsimp only at hSw); go_simp; try with_reducible rfl)
      (try simp only [Act.put, List.setIfInBounds_toArray, List.set_cons_zero, List.set_cons_succ])
      refine wpAnyH_take (i := 10) (oi := { dst := some 71, op := Op.move (Operand.tmp 8), type := 4, pos := "law.go:65", after := #[], guard := none }) (v := ?_) rfl (by kernel_rfl) (by kernel_rfl) (by kernel_rfl) (fun _ _ _ h => h) (Or.inl ⟨by rfl, ?_⟩) (by assumption) ?_
      rotate_left
      · (intro w hSw; (try dsimp only at hSw); go_simp; try with_reducible rfl)
      (try simp only [Act.put, List.setIfInBounds_toArray, List.set_cons_zero, List.set_cons_succ])
      refine wpAnyH_ready (rs := [3]) (by kernel_rfl) (by simp) ?_
      refine AllReadyH.cons (o := { dst := some 64, op := Op.call { callee := Callee.value (Operand.func 7), args := #[Operand.tmp 63], argTypes := #[24] }, type := 31, pos := "law.go:65", after := #[{ on := 2, ground := Ground.data }], guard := none }) rfl (fun K hK => ?_) AllReadyH.nil
      (go_simp; go_at_call 7; (with_reducible refine (KF.out _ _ _ hHeld.1).mono ?_); rintro e w5 ⟨a5, c5, rfl, hr5, hc5, hq5, hb5⟩; go_wp2_with fail)
      refine hK.out _ _ ?_ (fun hHeld2 => ?_)
      · (first | exact KS4.out _ (Below.refl _ _).drew | exact KS2.out _ (by assumption) | assumption)
      clear hK K
      (try simp only [Act.put, List.setIfInBounds_toArray, List.set_cons_zero, List.set_cons_succ])
      clear hHeld; have hHeld := hHeld2; clear hHeld2
      refine wpAnyH_ready (rs := [5]) (by kernel_rfl) (by simp) ?_
      refine AllReadyH.cons (o := { dst := some 66, op := Op.call { callee := Callee.value (Operand.func 7), args := #[Operand.tmp 65], argTypes := #[24] }, type := 31, pos := "law.go:65", after := #[{ on := 4, ground := Ground.data }, { on := 3, ground := Ground.chain }], guard := none }) rfl (fun K hK => ?_) AllReadyH.nil
      (go_simp; go_at_call 7; (with_reducible refine (KT.out _ hHeld.1).mono ?_); rintro e w6 ⟨a6, c6, rfl, hr6, hc6, hq6, hb6⟩; go_wp2_with fail)
      refine hK.out _ _ ?_ (fun hHeld2 => ?_)
      · (first | exact KS4.out _ (Below.refl _ _).drew | exact KS2.out _ (by assumption) | assumption)
      clear hK K
      (try simp only [Act.put, List.setIfInBounds_toArray, List.set_cons_zero, List.set_cons_succ])
      clear hHeld; have hHeld := hHeld2; clear hHeld2
      refine wpAnyH_ready (rs := [11]) (by kernel_rfl) (by simp) ?_
      refine AllReadyH.cons (o := { dst := some 72, op := Op.call { callee := Callee.value (Operand.func 9), args := #[Operand.tmp 64, Operand.tmp 66, Operand.tmp 68, Operand.tmp 70, Operand.tmp 71], argTypes := #[31, 31, 3, 3, 4] }, type := 26, pos := "law.go:65", after := #[{ on := 3, ground := Ground.data }, { on := 5, ground := Ground.data }, { on := 7, ground := Ground.data }, { on := 9, ground := Ground.data }, { on := 10, ground := Ground.data }, { on := 5, ground := Ground.chain }], guard := none }) rfl (fun K hK => ?_) AllReadyH.nil
      (go_simp; go_at_call 9; (with_reducible refine (KR.out _ _ _ _ _ _ HAL.out (hr5.below hq6) hr6 hc6 hb6).mono ?_); rintro e w7 ⟨v7, rfl, hk7, hb7⟩; go_wp2_with fail)
      refine hK.out _ _ ?_ (fun hHeld2 => ?_)
      · (first | exact KS4.out _ (Below.refl _ _).drew | exact KS2.out _ (by assumption) | assumption)
      clear hK K
      (try simp only [Act.put, List.setIfInBounds_toArray, List.set_cons_zero, List.set_cons_succ])
      clear hHeld; have hHeld := hHeld2; clear hHeld2
      refine wpAnyH_ready (rs := [12]) (by kernel_rfl) (by simp) ?_
      refine AllReadyH.cons (o := { dst := some 73, op := Op.convert 26 9 (Operand.tmp 72), type := 9, pos := "law.go:65", after := #[{ on := 11, ground := Ground.data }], guard := none }) rfl (fun K hK => ?_) AllReadyH.nil
      (go_simp)
      refine hK.out _ _ ?_ (fun hHeld2 => ?_)
      · (first | exact KS4.out _ (Below.refl _ _).drew | exact KS2.out _ (by assumption) | assumption)
      clear hK K
      (try simp only [Act.put, List.setIfInBounds_toArray, List.set_cons_zero, List.set_cons_succ])
      clear hHeld; have hHeld := hHeld2; clear hHeld2
      refine wpAnyH_take (i := 13) (oi := { dst := some 74, op := Op.binOp BinOp.eql 9 (Operand.tmp 62) (Operand.tmp 73) 9, type := 4, pos := "law.go:65", after := #[{ on := 1, ground := Ground.data }, { on := 12, ground := Ground.data }], guard := none }) (v := ?_) rfl (by kernel_rfl) (by kernel_rfl) (by kernel_rfl) (fun _ _ _ h => h) (Or.inl ⟨by rfl, ?_⟩) (by assumption) ?_
      rotate_left
      · (intro w hSw; (try dsimp only at hSw); go_simp; try with_reducible rfl)
      (try simp only [Act.put, List.setIfInBounds_toArray, List.set_cons_zero, List.set_cons_succ])
      refine wpAnyH_take (i := 14) (oi := { dst := some 75, op := Op.move (Operand.tmp 74), type := 4, pos := "law.go:65", after := #[{ on := 13, ground := Ground.data }, { on := 11, ground := Ground.chain }], guard := none }) (v := ?_) rfl (by kernel_rfl) (by kernel_rfl) (by kernel_rfl) (fun _ _ _ h => h) (Or.inl ⟨by rfl, ?_⟩) (by assumption) ?_
      rotate_left
      · (intro w hSw; (try dsimp only at hSw); go_simp; try with_reducible rfl)
      (try simp only [Act.put, List.setIfInBounds_toArray, List.set_cons_zero, List.set_cons_succ])
      refine wpAnyH_take (i := 15) (oi := { dst := some 76, op := Op.move (Operand.tmp 6), type := 27, pos := "law.go:65", after := #[{ on := 14, ground := Ground.guard }], guard := some (14, true) }) (v := ?_) rfl (by kernel_rfl) (by kernel_rfl) (by kernel_rfl) (fun _ _ _ h => h) (Or.inl ⟨by rfl, ?_⟩) (by assumption) ?_
      rotate_left
      · (intro w hSw; (try dsimp only at hSw); go_simp; try with_reducible rfl)
      (try simp only [Act.put, List.setIfInBounds_toArray, List.set_cons_zero, List.set_cons_succ])
      refine wpAnyH_take (i := 16) (oi := { dst := some 77, op := Op.binOp BinOp.eql 27 (Operand.tmp 76) (Operand.const (Value.int IntKind.i64 0)) 27, type := 4, pos := "law.go:65", after := #[{ on := 15, ground := Ground.data }, { on := 14, ground := Ground.guard }], guard := some (14, true) }) (v := ?_) rfl (by kernel_rfl) (by kernel_rfl) (by kernel_rfl) (fun _ _ _ h => h) (Or.inl ⟨by rfl, ?_⟩) (by assumption) ?_
      rotate_left
      · (intro w hSw; (try dsimp only at hSw); go_simp; try with_reducible rfl)
      (try simp only [Act.put, List.setIfInBounds_toArray, List.set_cons_zero, List.set_cons_succ])
      refine wpAnyH_take (i := 17) (oi := { dst := some 78, op := Op.pick (Operand.tmp 75) (Operand.tmp 77) (Operand.const (Value.bool false)), type := 4, pos := "law.go:65", after := #[{ on := 14, ground := Ground.data }, { on := 16, ground := Ground.data }], guard := none }) (v := ?_) rfl (by kernel_rfl) (by kernel_rfl) (by kernel_rfl) (fun _ _ _ h => h) (Or.inl ⟨by rfl, ?_⟩) (by assumption) ?_
      rotate_left
      · (intro w hSw; (try dsimp only at hSw); go_simp; try with_reducible rfl)
      (try simp only [Act.put, List.setIfInBounds_toArray, List.set_cons_zero, List.set_cons_succ])
      refine wpAnyH_take (i := 18) (oi := { dst := some 79, op := Op.move (Operand.tmp 78), type := 4, pos := "law.go:65", after := #[{ on := 17, ground := Ground.data }, { on := 14, ground := Ground.chain }], guard := none }) (v := ?_) rfl (by kernel_rfl) (by kernel_rfl) (by kernel_rfl) (fun _ _ _ h => h) (Or.inl ⟨by rfl, ?_⟩) (by assumption) ?_
      rotate_left
      · (intro w hSw; (try dsimp only at hSw); go_simp; try with_reducible rfl)
      (try simp only [Act.put, List.setIfInBounds_toArray, List.set_cons_zero, List.set_cons_succ])
      refine wpAnyH_ready (rs := [19]) (by kernel_rfl) (by simp) ?_
      refine AllReadyH.cons (o := { dst := some 80, op := Op.call { callee := Callee.value (Operand.func 4), args := #[], argTypes := #[] }, type := 4, pos := "law.go:65", after := #[{ on := 18, ground := Ground.chain }, { on := 18, ground := Ground.guard }], guard := some (18, true) }) rfl (fun K hK => ?_) AllReadyH.nil
      (go_simp; go_at_call 4; (with_reducible refine (KN.out _ hHeld.1).mono ?_); rintro e w8 ⟨rfl, hb8⟩; go_wp2_with fail)
      refine hK.out _ _ ?_ (fun hHeld2 => ?_)
      · (first | exact KS4.out _ (Below.refl _ _).drew | exact KS2.out _ (by assumption) | assumption)
      clear hK K
      (try simp only [Act.put, List.setIfInBounds_toArray, List.set_cons_zero, List.set_cons_succ])
      clear hHeld; have hHeld := hHeld2; clear hHeld2
      refine wpAnyH_take (i := 20) (oi := { dst := some 81, op := Op.pick (Operand.tmp 79) (Operand.tmp 80) (Operand.const (Value.bool false)), type := 4, pos := "law.go:65", after := #[{ on := 18, ground := Ground.data }, { on := 19, ground := Ground.data }], guard := none }) (v := ?_) rfl (by kernel_rfl) (by kernel_rfl) (by kernel_rfl) (fun _ _ _ h => h) (Or.inl ⟨by rfl, ?_⟩) (by assumption) ?_
      rotate_left
      · (intro w hSw; (try dsimp only at hSw); go_simp; try with_reducible rfl)
      (try simp only [Act.put, List.setIfInBounds_toArray, List.set_cons_zero, List.set_cons_succ])
      refine wpAnyH_take (i := 21) (oi := { dst := some 4, op := Op.assign (Operand.tmp 81), type := 4, pos := "law.go:65", after := #[{ on := 20, ground := Ground.data }, { on := 19, ground := Ground.chain }, { on := 0, ground := Ground.phase }, { on := 1, ground := Ground.phase }, { on := 2, ground := Ground.phase }, { on := 3, ground := Ground.phase }, { on := 4, ground := Ground.phase }, { on := 5, ground := Ground.phase }, { on := 6, ground := Ground.phase }, { on := 7, ground := Ground.phase }, { on := 8, ground := Ground.phase }, { on := 9, ground := Ground.phase }, { on := 10, ground := Ground.phase }, { on := 11, ground := Ground.phase }, { on := 12, ground := Ground.phase }, { on := 13, ground := Ground.phase }, { on := 14, ground := Ground.phase }, { on := 15, ground := Ground.phase }, { on := 16, ground := Ground.phase }, { on := 17, ground := Ground.phase }, { on := 18, ground := Ground.phase }, { on := 19, ground := Ground.phase }, { on := 20, ground := Ground.phase }], guard := none }) (v := ?_) rfl (by kernel_rfl) (by kernel_rfl) (by kernel_rfl) (fun _ _ _ h => h) (Or.inl ⟨by rfl, ?_⟩) (by assumption) ?_
      rotate_left
      · (intro w hSw; (try dsimp only at hSw); go_simp; try with_reducible rfl)
      (try simp only [Act.put, List.setIfInBounds_toArray, List.set_cons_zero, List.set_cons_succ])
      refine wpAnyH_done (by kernel_rfl) ?_ _
      clear hHeld
      go_wp2
      go_ret
      exact ⟨rfl, (HBV.out.trans (HB1.out.mono (by omega))).trans (hb8.mono (by omega))⟩
end
end Go.Proofs.YtnbpkabnaipimaaGreatDoor
