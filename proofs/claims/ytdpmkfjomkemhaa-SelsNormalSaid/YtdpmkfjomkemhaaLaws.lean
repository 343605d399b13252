/- The walks of the two laws, over contracts of the program's five functions that they call. -/
import Derived.Test.YtdpmkfjomkemhaaSame
import Derived.Test.YtdpmkfjomkemhaaRefIs
import Derived.Test.YtdpmkfjomkemhaaSteps
import Derived.Test.YtdpmkfjomkemhaaPost
import Derived.Deep.CutBlock
import Derived.Deep.CutRange
import Derived.Deep.RegionHeld3
namespace Go.Proofs.Ytdpmkfjomkemhaa
open Go Go.RowKit

def len0 (m : Int) : Int := if m < 0 then 0 else m

open Classical in
/-- What the laws ask of the program's functions, and of the reference's Normal. -/
structure Said : Prop where
  normal : ∀ (a : Option Addr) (n c : Nat) (m : Int) (ls : List Sl) (w : World), n ≤ 100 → n ≤ c → (a = none → n = 0 ∧ c = 0) → RowAt Sl.cells 24 w a n ls → Calls Try.prog 6 #[.slice a n c, .int .i64 m] w (GotN w (ownOf (len0 m) ls))
  ref : ∀ (a : Option Addr) (n c : Nat) (m : Int) (ls : List Sl) (w : World), n ≤ 1000000 → RowAt Sl.cells 24 w a n ls → Calls Try.prog 8 #[.slice a n c, .int .i64 m] w (GotN w (ownOf (len0 m) ls))
  is : ∀ (a : Option Addr) (n c : Nat) (m : Int) (ls : List Sl) (w : World), n ≤ 100 → RowAt Sl.cells 24 w a n ls → Calls Try.prog 9 #[.slice a n c, .int .i64 m] w fun e w' => e = .returned (.bool (decide (Right ls m))) ∧ Below w.heap.size w w'
  span : ∀ (s : Sl) (w : World), Calls Try.prog 11 #[.agg #[.int .i64 s.a, .int .i64 s.h]] w fun e w' => e = .returned (.agg #[.int .i64 s.lo, .int .i64 s.hi]) ∧ Below w.heap.size w w'
  add : ∀ (a : Option Addr) (n c : Nat) (s : Sl) (m : Int) (ls : List Sl) (w : World), n ≤ 100 → n ≤ c → (a = none → n = 0 ∧ c = 0) → RowAt Sl.cells 24 w a n ls → Calls Try.prog 14 #[.slice a n c, .agg #[.int .i64 s.a, .int .i64 s.h], .int .i64 m] w (GotA w (ownOf (len0 m) (ls ++ [s])))
  knows : ∀ w : World, Calls Try.prog 5 #[] w fun e w' => e = .returned (.bool true) ∧ Below w.heap.size w w'

theorem own_gotN {w w' : World} {n : Nat} {v : Value} {l : List Sl} {B : Nat} (h : w'.ownsRow B 24 2 v n (flat Sl.cells l)) : ∃ a c, v = .slice a n c ∧ n ≤ c ∧ (a = none → n = 0 ∧ c = 0) ∧ RowAt Sl.cells 24 w' a n l := by
  have _ := w
  exact own_row sl_len (by decide) h

theorem row30 (w : World) (a h : Int) : (w.alloc (Obj.cells #[.int .i64 a, .int .i64 h] 30)).rowIs w.heap.size 30 2 (sl2 a h) :=
  World.rowIs_alloc w _ 30 _ fun i hi => by
    match i, hi with
    | 0, _ => rfl
    | 1, _ => rfl
open Classical in
theorem same_eq (a b : Option Addr) (n c d : Nat) (l : List Sl) (w : World) (hn : n ≤ 1000000) (h1 : RowAt Sl.cells 24 w a n l) (h2 : RowAt Sl.cells 24 w b n l) :
    Calls Try.prog 7 #[.slice a n c, .slice b n d] w fun e w' => e = .returned (.bool true) ∧ Below w.heap.size w w' :=
  (same a b n n c d l l w hn h1 h2).mono fun _ _ ⟨he, hb⟩ => ⟨he.trans (ret_bool (decide_eq_true rfl)), hb⟩

set_option maxRecDepth 100000 in
set_option maxHeartbeats 4000000 in
theorem normal_walk (P : Said) (a : Option Addr) (n c : Nat) (ls : List Sl) (s : Sl) (m : Int) (w : World) (hcap : n ≤ c) (hno : a = none → n = 0 ∧ c = 0) (hl : RowAt Sl.cells 24 w a n ls) :
    Calls Try.prog 3 #[.slice a n c, .agg #[.int .i64 s.a, .int .i64 s.h], .int .i64 m] w fun e w' => e = .returned (.bool true) ∧ Below w.heap.size w w' := by
  have K := Lib.hid P.knows
  by_cases hn : n ≤ 60
  · have hn' : ¬ (60 : Int) < (n : Int) := by omega
    have b0 : Below w.heap.size w (w.alloc (Obj.cells #[.int .i64 s.a, .int .i64 s.h] 24)) := (Below.refl _ _).alloc (Nat.le_refl _) _
    have HL := Lib.hid (hl.below b0)
    have SB := Lib.hid (row2 w s.a s.h)
    have B0 := Lib.hid b0
    have PN := Lib.hid P.normal
    have PR := Lib.hid P.ref
    have PI := Lib.hid P.is
    have PS := Lib.hid P.span
    have PA := Lib.hid P.add
    clear hl b0
    go_enter Try.func3, Try.ntmps3
    go_wp2_with fail
    obtain ⟨V, hV⟩ : ∃ V, V = (w.alloc (Obj.cells #[.int .i64 s.a, .int .i64 s.h] 24)) := ⟨_, rfl⟩
    rw [← hV] at HL SB B0
    rw [← hV]
    clear hV
    (with_reducible refine (PN.out a n c m ls V (by omega) hcap hno HL.out).mono ?_)
    rintro e w1 ⟨v1, out, rfl, hm1, ho1, hb1⟩
    have L1 := Lib.hid (HL.out.below hb1)
    have M1 := Lib.hid hm1
    have O1 := Lib.hid ho1
    have B1 := Lib.hid (B0.out.trans (hb1.mono B0.out.size))
    have S1 := Lib.hid (SB.out.of_block (hb1.block _ SB.out.lt))
    clear hm1 ho1 hb1 HL SB B0
    go_wp2_with fail
    (with_reducible refine (PR.out a n c m ls w1 (by omega) L1.out).mono ?_)
    rintro e w2 ⟨v2, out2, rfl, hm2, ho2, hb2⟩
    obtain rfl : out = out2 := M1.out.one hm2
    have hol : out.length ≤ 61 := by have := made_len M1.out; simp [ownOf] at this; have := L1.out.1; omega
    have B2 := Lib.hid (B1.out.trans (hb2.mono B1.out.size))
    have S2 := Lib.hid (S1.out.of_block (hb2.block _ S1.out.lt))
    have L2 := Lib.hid (L1.out.below hb2)
    obtain ⟨a1, c1, rfl, _, _, hr1⟩ := own_gotN (w := w) (own_below O1.out hb2)
    obtain ⟨a2, c2, rfl, _, _, hr2⟩ := own_gotN (w := w) ho2
    have SM := Lib.hid (same_eq a1 a2 out.length c1 c2 out w2 (by omega) hr1 hr2)
    clear hm2 ho2 hb2 hr1 hr2 L1 O1 B1 S1
    go_wp2_with fail
    (with_reducible refine SM.out.mono ?_)
    rintro e w3 ⟨rfl, hb3⟩
    have B3 := Lib.hid (B2.out.trans (hb3.mono B2.out.size))
    have S3 := Lib.hid (S2.out.of_block (hb3.block _ S2.out.lt))
    have L3 := Lib.hid (L2.out.below hb3)
    clear hb3 B2 S2 L2 SM
    go_wp2_with fail
    (with_reducible refine (PI.out a n c m ls w3 (by omega) L3.out).mono ?_)
    rintro e w4 ⟨rfl, hb4⟩
    have RI := Lib.hid (refIs a n c ls m w4 (by omega) (L3.out.below hb4))
    obtain ⟨bI, hbI⟩ : ∃ b, b = @decide (Right ls m) (Classical.propDecidable _) := ⟨_, rfl⟩
    rw [← hbI] at RI
    rw [← hbI]
    have B4 := Lib.hid (B3.out.trans (hb4.mono B3.out.size))
    have S4 := Lib.hid (S3.out.of_block (hb4.block _ S3.out.lt))
    have L4 := Lib.hid (L3.out.below hb4)
    clear hb4 B3 S3 L3 hbI
    go_wp2_with fail
    (with_reducible refine RI.out.mono ?_)
    rintro e w5 ⟨rfl, hb5⟩
    have B5 := Lib.hid (B4.out.trans (hb5.mono B4.out.size))
    have S5 := Lib.hid (S4.out.of_block (hb5.block _ S4.out.lt))
    have L5 := Lib.hid (L4.out.below hb5)
    clear hb5 B4 S4 L4 RI
    have hbb : (bI == bI) = true := by simp
    have hbn : (bI != bI) = false := by simp
    have s0 : w5.cell? ⟨w.heap.size, 0, none⟩ = some (.int .i64 s.a) := S5.out.cell (i := 0) (by omega)
    have s1 : w5.cell? ⟨w.heap.size, 1, none⟩ = some (.int .i64 s.h) := S5.out.cell (i := 1) (by omega)
    go_wp2_with fail
    (with_reducible refine (PS.out s w5).mono ?_)
    rintro e w6 ⟨rfl, hb6⟩
    have B6 := Lib.hid (B5.out.trans (hb6.mono B5.out.size))
    have S6 := Lib.hid (S5.out.of_block (hb6.block _ S5.out.lt))
    have L6 := Lib.hid (L5.out.below hb6)
    clear hb6 B5 S5 L5 s0 s1
    go_upto_region 7 with fail
    have XS := Lib.hid (row30 w6 s.lo s.hi)
    have S7 := Lib.hid (S6.out.alloc (Obj.cells #[.int .i64 s.lo, .int .i64 s.hi] 30))
    have L7 := Lib.hid (L6.out.below ((Below.refl _ w6).alloc (Nat.le_refl _) (Obj.cells #[.int .i64 s.lo, .int .i64 s.hi] 30)))
    have B7 := Lib.hid (show Below w.heap.size w (w6.alloc (Obj.cells #[.int .i64 s.lo, .int .i64 s.hi] 30)) from B6.out.alloc B6.out.size _)
    obtain ⟨xb, hxb⟩ : ∃ xb, xb = w6.heap.size := ⟨_, rfl⟩
    rw [← hxb] at XS
    rw [← hxb]
    clear S6 L6 B6 hxb
    generalize (w6.alloc (Obj.cells #[.int .i64 s.lo, .int .i64 s.hi] 30)) = V7 at *
    have KS := Lib.hid (fun (W : World) (h : Below V7.heap.size V7 W) => (show Below V7.heap.size V7 W ∧ W.cell? ⟨w.heap.size, 0, none⟩ = some (.int .i64 s.a) ∧ W.cell? ⟨w.heap.size, 1, none⟩ = some (.int .i64 s.h) ∧ W.cell? ⟨xb, 0, none⟩ = some (.int .i64 s.lo) ∧ W.cell? ⟨xb, 1, none⟩ = some (.int .i64 s.hi) from
      ⟨h, (S7.out.of_block (h.block _ S7.out.lt)).cell (i := 0) (by omega), (S7.out.of_block (h.block _ S7.out.lt)).cell (i := 1) (by omega), (XS.out.of_block (h.block _ XS.out.lt)).cell (i := 0) (by omega), (XS.out.of_block (h.block _ XS.out.lt)).cell (i := 1) (by omega)⟩))
    have LS := Lib.hid (fun W h hB => lowB V7.heap.size V7 s W h hB)
    have HS := Lib.hid (fun W h hB => highB V7.heap.size V7 s W h hB)
    have hll : (s.lo != s.lo) = false := by simp
    have hhh : (s.hi != s.hi) = false := by simp
    go_region_held3 (fun W => Below V7.heap.size V7 W ∧ W.cell? ⟨w.heap.size, 0, none⟩ = some (.int .i64 s.a) ∧ W.cell? ⟨w.heap.size, 1, none⟩ = some (.int .i64 s.h) ∧ W.cell? ⟨xb, 0, none⟩ = some (.int .i64 s.lo) ∧ W.cell? ⟨xb, 1, none⟩ = some (.int .i64 s.hi)) (first | exact KS.out _ (Below.refl _ _).drew | exact KS.out _ (by assumption) | assumption)
      (first
        | (go_at_call 12; (with_reducible refine (LS.out _ (And.left (by assumption)) (And.left (a := Below V7.heap.size V7 _) (by assumption)).size).mono ?_); rintro e w' ⟨rfl, hb⟩)
        | (go_at_call 13; (with_reducible refine (HS.out _ (And.left (by assumption)) (And.left (a := Below V7.heap.size V7 _) (by assumption)).size).mono ?_); rintro e w' ⟨rfl, hb⟩))
    have hbW : Below V7.heap.size V7 w' := And.left (by assumption)
    have B8 := Lib.hid (B7.out.trans (hbW.mono B7.out.size))
    have S8 := Lib.hid (S7.out.of_block (hbW.block _ S7.out.lt))
    have L8 := Lib.hid (L7.out.below hbW)
    clear hbW B7 S7 L7 XS KS LS HS
    generalize w' = V8 at *
    have s0 : V8.cell? ⟨w.heap.size, 0, none⟩ = some (.int .i64 s.a) := S8.out.cell (i := 0) (by omega)
    have s1 : V8.cell? ⟨w.heap.size, 1, none⟩ = some (.int .i64 s.h) := S8.out.cell (i := 1) (by omega)
    go_wp2_with fail
    (with_reducible refine (PA.out a n c s m ls V8 (by omega) hcap hno L8.out).mono ?_)
    rintro e V9 ⟨out9, v9, n9, c9, hm9, hb9, h9⟩
    obtain ⟨e9, rfl, hcase⟩ : ∃ e9 : Int, e = .returned (.tuple #[.slice v9 n9 c9, .int .i64 e9]) ∧ ((16 < out9.length ∧ n9 = 0 ∧ e9 = 3) ∨ (¬ 16 < out9.length ∧ n9 = out9.length ∧ V9.ownsRow V8.heap.size 24 2 (.slice v9 n9 c9) n9 (flat Sl.cells out9) ∧ e9 = 0)) := by
      rcases h9 with ⟨h1, rfl, rfl⟩ | ⟨h1, h2, h3, rfl⟩
      · exact ⟨3, rfl, .inl ⟨h1, rfl, rfl⟩⟩
      · exact ⟨0, rfl, .inr ⟨h1, h2, h3, rfl⟩⟩
    have M9 := Lib.hid hm9
    have CA := Lib.hid hcase
    have B9 := Lib.hid (B8.out.trans (hb9.mono B8.out.size))
    have S9 := Lib.hid (S8.out.of_block (hb9.block _ S8.out.lt))
    have L9 := Lib.hid (L8.out.below hb9)
    clear hm9 hcase h9 hb9 B8 S8 L8 s0 s1
    have s0 : V9.cell? ⟨w.heap.size, 0, none⟩ = some (.int .i64 s.a) := S9.out.cell (i := 0) (by omega)
    have s1 : V9.cell? ⟨w.heap.size, 1, none⟩ = some (.int .i64 s.h) := S9.out.cell (i := 1) (by omega)
    have hsl : w.heap.size < V9.heap.size := S9.out.lt
    have hsn : w.heap.size ≠ V9.heap.size := by omega
    obtain ⟨i2, hi2, hy0, hy1, hy2⟩ := info_cut Try.info24
    have HNO := Lib.hid hno
    have FL := Lib.hid (show (flat Sl.cells ls).length = n * 2 by rw [flat_len sl_len, L9.out.1])
    have NO := Lib.hid (show ∀ u ∈ Sl.cells s, u.oneCell' = true from fun u hu => sl_one [s] u (by rw [flat_one]; exact hu))
    have LIT1 := Lib.hid (show (((V9.alloc (Obj.cells #[.int .i64 s.a, .int .i64 s.h] 24)).alloc (Obj.cells #[] 24)).drew).ownsRow V9.heap.size 24 2 (.slice (some ⟨V9.heap.size + 1, 0, none⟩) 0 0) 0 [] by
      have h := World.ownsRow_lit (base := V9.heap.size) (e := 24) (size := 2) (V9.alloc (Obj.cells #[.int .i64 s.a, .int .i64 s.h] 24)) #[] 0 (by simp) (by unfold maxLen; omega) rfl
      rw [show (V9.alloc (Obj.cells #[.int .i64 s.a, .int .i64 s.h] 24)).heap.size = V9.heap.size + 1 by simp] at h
      exact h)
    have LIT3 := Lib.hid (show ((V9.alloc (Obj.cells #[] 24)).drew).ownsRow V9.heap.size 24 2 (.slice (some ⟨V9.heap.size, 0, none⟩) 0 0) 0 [] from World.ownsRow_lit V9 #[] 0 (Nat.le_refl _) (by unfold maxLen; omega) rfl)
    have LIT2 := Lib.hid (show (((V9.alloc (Obj.cells #[] 24)).alloc (Obj.cells #[.int .i64 s.a, .int .i64 s.h] 24)).drew).ownsRow V9.heap.size 24 2 (.slice (some ⟨V9.heap.size, 0, none⟩) 0 0) 0 [] from (World.ownsRow_lit V9 #[] 0 (Nat.le_refl _) (by unfold maxLen; omega) rfl).alloc _)
    have NS1 := Lib.hid (show ∀ j u, (Sl.cells s)[j]? = some u → (((V9.alloc (Obj.cells #[.int .i64 s.a, .int .i64 s.h] 24)).alloc (Obj.cells #[] 24)).drew).cell? ((⟨V9.heap.size, 0, none⟩ : Addr).add j) = some u from fun j u h => Lib.cell?_alloc_some _ (new_cells V9 (Sl.cells s) 24 j u h))
    have NS2 := Lib.hid (show ∀ j u, (Sl.cells s)[j]? = some u → (((V9.alloc (Obj.cells #[] 24)).alloc (Obj.cells #[.int .i64 s.a, .int .i64 s.h] 24)).drew).cell? ((⟨V9.heap.size + 1, 0, none⟩ : Addr).add j) = some u from fun j u h => by
      have h2 := new_cells (V9.alloc (Obj.cells #[] 24)) (Sl.cells s) 24 j u h
      rw [show (V9.alloc (Obj.cells #[] 24)).heap.size = V9.heap.size + 1 by simp] at h2
      exact h2)
    clear hno
    go_upto_region 10 with fail
    go_cut [11] from 55 to 62 (fun s11 wx => ∃ a4 c4 out4, s11 = .slice a4 (List.length out4) c4 ∧ Made (ownOf (len0 m) (ls ++ [s])) out4 ∧ RowAt Sl.cells 24 wx a4 out4.length out4 ∧ Below V9.heap.size V9 wx)
    case first =>
      go_region_law (first
        | (refine step_append_in rfl (.tmp 55) (.tmp 56) 22 rfl V9.heap.size 24 i2 _ 2 16 Try.underlying22 hi2 hy0 hy1 hy2 rfl (by decide) (.slice (some ⟨V9.heap.size + 1, 0, none⟩) 0 0) 0 [] (by simp [Act.eval]) LIT1.out a n c (flat Sl.cells ls) (by simp [Act.eval]) HNO.out FL.out (row_holds (L9.out.below ((((Below.refl _ V9).alloc (Nat.le_refl _) (Obj.cells #[.int .i64 s.a, .int .i64 s.h] 24)).alloc (by simp) (Obj.cells #[] 24)).drew))) (sl_one _) (by unfold maxLen; omega) (by omega) (by simp; try omega) ?_; intro v2 w2 own2 gr2; have O2 := Lib.hid own2; have B2 := Lib.hid (show Below V9.heap.size V9 w2 from (show Below V9.heap.size V9 _ from ((((Below.refl _ V9).alloc (Nat.le_refl _) (Obj.cells #[.int .i64 s.a, .int .i64 s.h] 24)).alloc (by simp) (Obj.cells #[] 24)).drew)).grown gr2 (by simp; try omega) (fun k hk => by simp [Value.ownBlock] at hk; omega)); have u0 := (B2.out.cell (p := ⟨w.heap.size, 0, none⟩) (by exact hsl)).trans s0; have u1 := (B2.out.cell (p := ⟨w.heap.size, 1, none⟩) (by exact hsl)).trans s1; have NC := Lib.hid (show ∀ j u, (Sl.cells s)[j]? = some u → w2.cell? ((⟨V9.heap.size, 0, none⟩ : Addr).add j) = some u from fun j u h => gr2.cell (NS1.out j u h) (by simp [Value.ownBlock, Addr.add_lit])); clear own2 gr2)
        | (refine step_append_in rfl (.tmp 55) (.tmp 56) 22 rfl V9.heap.size 24 i2 _ 2 16 Try.underlying22 hi2 hy0 hy1 hy2 rfl (by decide) (.slice (some ⟨V9.heap.size, 0, none⟩) 0 0) 0 [] (by simp [Act.eval]) LIT2.out a n c (flat Sl.cells ls) (by simp [Act.eval]) HNO.out FL.out (row_holds (L9.out.below ((((Below.refl _ V9).alloc (Nat.le_refl _) (Obj.cells #[] 24)).alloc (by simp) (Obj.cells #[.int .i64 s.a, .int .i64 s.h] 24)).drew))) (sl_one _) (by unfold maxLen; omega) (by omega) (by simp; try omega) ?_; intro v2 w2 own2 gr2; have O2 := Lib.hid own2; have B2 := Lib.hid (show Below V9.heap.size V9 w2 from (show Below V9.heap.size V9 _ from ((((Below.refl _ V9).alloc (Nat.le_refl _) (Obj.cells #[] 24)).alloc (by simp) (Obj.cells #[.int .i64 s.a, .int .i64 s.h] 24)).drew)).grown gr2 (by simp; try omega) (fun k hk => by simp [Value.ownBlock] at hk; omega)); have u0 := (B2.out.cell (p := ⟨w.heap.size, 0, none⟩) (by exact hsl)).trans s0; have u1 := (B2.out.cell (p := ⟨w.heap.size, 1, none⟩) (by exact hsl)).trans s1; have NC := Lib.hid (show ∀ j u, (Sl.cells s)[j]? = some u → w2.cell? ((⟨V9.heap.size + 1, 0, none⟩ : Addr).add j) = some u from fun j u h => gr2.cell (NS2.out j u h) (by simp [Value.ownBlock, Addr.add_lit])); clear own2 gr2)
        | (refine step_append_in rfl (.tmp 55) (.tmp 56) 22 rfl V9.heap.size 24 i2 _ 2 16 Try.underlying22 hi2 hy0 hy1 hy2 rfl (by decide) (.slice (some ⟨V9.heap.size, 0, none⟩) 0 0) 0 [] (by simp [Act.eval]) LIT3.out a n c (flat Sl.cells ls) (by simp [Act.eval]) HNO.out FL.out (row_holds (L9.out.below (((Below.refl _ V9).alloc (Nat.le_refl _) (Obj.cells #[] 24)).drew))) (sl_one _) (by unfold maxLen; omega) (by omega) (by simp; try omega) ?_; intro v2 w2 own2 gr2; have O2 := Lib.hid own2; have B2 := Lib.hid (show Below V9.heap.size V9 w2 from (show Below V9.heap.size V9 _ from (((Below.refl _ V9).alloc (Nat.le_refl _) (Obj.cells #[] 24)).drew)).grown gr2 (by simp; try omega) (fun k hk => by simp [Value.ownBlock] at hk; omega)); have u0 := (B2.out.cell (p := ⟨w.heap.size, 0, none⟩) (by exact hsl)).trans s0; have u1 := (B2.out.cell (p := ⟨w.heap.size, 1, none⟩) (by exact hsl)).trans s1; clear own2 gr2)
        | (refine step_append_own rfl (.tmp 57) (.tmp 59) 22 rfl V9.heap.size 24 i2 _ 2 16 Try.underlying22 hi2 hy0 hy1 hy2 rfl (by decide) v2 _ _ (by simp [Act.eval]) O2.out ⟨V9.heap.size, 0, none⟩ 1 1 (Sl.cells s) (by simp [Act.eval]) rfl NC.out NO.out (by unfold maxLen; omega) (by omega) B2.out.size ?_; intro v3 w3 own3 gr3; have B3 := Lib.hid (show Below V9.heap.size V9 w3 from B2.out.grown gr3 B2.out.size (fun k hk => (O2.out.lt k hk).1)); obtain ⟨a3, c3, rfl, _, _, hr3⟩ := own_gotN (w := w) (show w3.ownsRow V9.heap.size 24 2 v3 (n + 1) (flat Sl.cells (ls ++ [s])) by rw [flat_append, flat_one]; have h := own3; simp only [Nat.zero_add, List.nil_append] at h; exact h); have R3 := Lib.hid hr3; clear own3 gr3 hr3)
        | (refine step_append_own rfl (.tmp 57) (.tmp 59) 22 rfl V9.heap.size 24 i2 _ 2 16 Try.underlying22 hi2 hy0 hy1 hy2 rfl (by decide) v2 _ _ (by simp [Act.eval]) O2.out ⟨V9.heap.size + 1, 0, none⟩ 1 1 (Sl.cells s) (by simp [Act.eval]) rfl NC.out NO.out (by unfold maxLen; omega) (by omega) B2.out.size ?_; intro v3 w3 own3 gr3; have B3 := Lib.hid (show Below V9.heap.size V9 w3 from B2.out.grown gr3 B2.out.size (fun k hk => (O2.out.lt k hk).1)); obtain ⟨a3, c3, rfl, _, _, hr3⟩ := own_gotN (w := w) (show w3.ownsRow V9.heap.size 24 2 v3 (n + 1) (flat Sl.cells (ls ++ [s])) by rw [flat_append, flat_one]; have h := own3; simp only [Nat.zero_add, List.nil_append] at h; exact h); have R3 := Lib.hid hr3; clear own3 gr3 hr3)
        | (refine step_append_own rfl (.tmp 57) (.tmp 59) 22 rfl V9.heap.size 24 i2 _ 2 16 Try.underlying22 hi2 hy0 hy1 hy2 rfl (by decide) v2 _ _ (by simp [Act.eval]) (O2.out.alloc _) ⟨w2.heap.size, 0, none⟩ 1 1 (Sl.cells s) (by simp [Act.eval]) rfl (new_cells w2 (Sl.cells s) 24) NO.out (by unfold maxLen; omega) (by omega) (by have := B2.out.size; simp; omega) ?_; intro v3 w3 own3 gr3; have B3 := Lib.hid (show Below V9.heap.size V9 w3 from (B2.out.alloc B2.out.size _).grown gr3 (by have := B2.out.size; simp; omega) (fun k hk => (O2.out.lt k hk).1)); obtain ⟨a3, c3, rfl, _, _, hr3⟩ := own_gotN (w := w) (show w3.ownsRow V9.heap.size 24 2 v3 (n + 1) (flat Sl.cells (ls ++ [s])) by rw [flat_append, flat_one]; have h := own3; simp only [Nat.zero_add, List.nil_append] at h; exact h); have R3 := Lib.hid hr3; clear own3 gr3 hr3)
        | (go_simp; go_at_call 8; (with_reducible refine (PR.out a3 (n + 1) c3 m (ls ++ [s]) w3 (by omega) R3.out).mono ?_); rintro e w4 ⟨v4, out4, rfl, hm4, ho4, hb4⟩; go_wp2_with fail))
      all_goals
        obtain ⟨a4, c4, rfl, _, _, hr4⟩ := own_gotN (w := w) ho4
        have B4' := Lib.hid (B3.out.trans (hb4.mono B3.out.size))
        have R4 := Lib.hid hr4
        have M4 := Lib.hid hm4
        clear hm4 ho4 hb4 hr4
        go_wp2_with fail
        go_meet
        exact ⟨a4, c4, out4, rfl, M4.out, R4.out, B4'.out⟩
    case rest =>
      obtain ⟨a4, c4, out4, rfl, hm4, hr4, hb4⟩ := hcut
      obtain rfl : out9 = out4 := M9.out.one hm4
      rename World => V10
      have hlen : out9.length ≤ 62 := by have := made_len hm4; simp [ownOf] at this; have := L9.out.1; omega
      have B10 := Lib.hid (B9.out.trans (hb4.mono B9.out.size))
      rcases CA.out with ⟨h16, rfl, rfl⟩ | ⟨h16, rfl, ho9, rfl⟩
      · have h16z : (16 : Int) < (out9.length : Int) := by omega
        clear hm4 hr4 hb4
        go_wp2_with fail
        (with_reducible refine (K.out _).mono ?_)
        rintro e w12 ⟨rfl, b12⟩
        have B := Lib.hid (B10.out.trans (b12.mono B10.out.size))
        clear b12
        go_wp2
        go_ret
        exact ⟨rfl, B.out⟩
      · have h16z : ¬ (16 : Int) < (out9.length : Int) := by omega
        obtain ⟨_, _, hv9, _, _, hr9⟩ := own_gotN (w := w) ho9
        cases hv9
        have SM := Lib.hid (same_eq v9 a4 out9.length c9 c4 out9 V10 (by omega) (hr9.below hb4) hr4)
        clear hm4 hr4 hb4 hr9 ho9
        go_wp2_with fail
        (with_reducible refine SM.out.mono ?_)
        rintro e w11 ⟨rfl, b11⟩
        have B11 := Lib.hid (B10.out.trans (b11.mono B10.out.size))
        clear b11
        go_wp2_with fail
        (with_reducible refine (K.out _).mono ?_)
        rintro e w12 ⟨rfl, b12⟩
        have B := Lib.hid (B11.out.trans (b12.mono B11.out.size))
        clear b12
        go_wp2
        go_ret
        exact ⟨rfl, B.out⟩
  · have hn' : (60 : Int) < (n : Int) := by omega
    go_enter Try.func3, Try.ntmps3
    go_wp2_with fail
    (with_reducible refine (K.out _).mono ?_)
    rintro e w1 ⟨rfl, b1⟩
    have B := Lib.hid ((show Below w.heap.size w w1 from ((Below.refl _ w).alloc (Nat.le_refl _) _).trans (b1.mono (by simp; try omega))))
    clear b1
    go_wp2
    go_ret
    exact ⟨rfl, B.out⟩

end Go.Proofs.Ytdpmkfjomkemhaa
