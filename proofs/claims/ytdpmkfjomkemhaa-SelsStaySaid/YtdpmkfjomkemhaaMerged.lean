/- The contract of the program's merged. Conditions: the selections lie in memory, in order, not too many. -/
import Derived.Test.YtdpmkfjomkemhaaJoin
import Derived.Test.YtdpmkfjomkemhaaSteps
import Derived.Deep.RegionHeld3
import Derived.BigRegion
import Derived.Shelf.RegionOpenPlain
import Derived.Deep.CutBlock
import Derived.Deep.CutRange
namespace Go.Proofs.Ytdpmkfjomkemhaa
open Go Go.RowKit

theorem spanB (B : Nat) (V : World) (s : Sl) (W : World) (h : Below B V W) (hB : B ≤ W.heap.size) : Calls Try.prog 11 #[.agg #[.int .i64 s.a, .int .i64 s.h]] W fun e w' => e = .returned (.agg #[.int .i64 s.lo, .int .i64 s.hi]) ∧ Below B V w' :=
  (spanAt s W).mono fun e w' ⟨he, hw⟩ => ⟨he, by subst hw; exact (h.alloc hB _).alloc (by simp; omega) _⟩
/-- A store of a whole selection. -/
theorem sl_set {w : World} {B e g c p : Nat} {l : List Sl} {n : Nat} (h : w.ownsRow B e 2 (.slice (some ⟨g, 0, none⟩) n c) n (flat Sl.cells l)) (x y : Sl) (hk : l[p]? = some x) :
    ((w.setCell ⟨g, p * 2, none⟩ (.int .i64 y.a)).setCell ⟨g, p * 2 + 1, none⟩ (.int .i64 y.h)).ownsRow B e 2 (.slice (some ⟨g, 0, none⟩) n c) n (flat Sl.cells (l.set p y)) := by
  have h1 := own_set h (p * 2 + 0) (.int .i64 y.a)
  rw [flat_set sl_len l p 0 x ⟨y.a, x.h⟩ _ hk (by omega) rfl] at h1
  have h2 := own_set h1 (p * 2 + 1) (.int .i64 y.h)
  have hp := (List.getElem?_eq_some_iff.1 hk).1
  rw [flat_set sl_len (l.set p ⟨y.a, x.h⟩) p 1 ⟨y.a, x.h⟩ y _ (by simp [hp]) (by omega) rfl, List.set_set] at h2
  exact h2
theorem set_last (o : List Sl) (x y : Sl) : (o ++ [x]).set o.length y = o ++ [y] := by simp
theorem sl_one1' (x : Sl) : ∀ v ∈ Sl.cells x, v.oneCell' = true := fun u hu => sl_one [x] u (by rw [flat_one]; exact hu)
set_option maxHeartbeats 40000000 in
set_option maxRecDepth 100000 in
theorem mergedAt (a : Option Addr) (n c : Nat) (ys : List Sl) (w : World) (hn : n ≤ 1000) (hl : RowAt Sl.cells 24 w a n ys) (ha : Asc ys) :
    Calls Try.prog 15 #[.slice a n c] w fun e w' => ∃ v out, e = .returned v ∧ Norm ys out ∧ w'.ownsRow w.heap.size 24 2 v out.length (flat Sl.cells out) ∧ Below w.heap.size w w' := by
  have mixed : Try.prog.follows .mixedOrders = true := by kernel_rfl
  have HL := Lib.hid hl
  have AS := Lib.hid ha
  clear hl ha
  obtain ⟨i2, hi2, hy0, hy1, hy2⟩ := info_cut Try.info24
  go_enter Try.func15, Try.ntmps15
  go_wp2
  go_loopw [3, 9] (fun v3 i wr => ∃ (k : Nat) (out : List Sl), k ≤ n ∧ i = .int .i64 k ∧ Acc ys k out ∧ out.length ≤ k ∧ wr.ownsRow w.heap.size 24 2 v3 out.length (flat Sl.cells out) ∧ Below w.heap.size w wr) (fun _ i _ => n - (RowKit.intOf i).toNat)
  case atStart => exact ⟨0, [], Nat.zero_le _, rfl, acc_start ys, Nat.le_refl _, World.ownsRow_nil _ _ _ _, Below.refl _ _⟩
  case round =>
    obtain ⟨k, out, hk, rfl, hacc, hlen, ho, hbel⟩ := hrel
    by_cases hltk : k < n
    · obtain ⟨s, hs⟩ : ∃ s, ys[k]? = some s := ⟨ys[k]'(by have := HL.out.1; omega), by simp⟩
      rcases HL.out.2 with h0 | ⟨g, off, rfl, hh, hc⟩
      · omega
      obtain ⟨c0, c1⟩ := slCells (fun j u hu => (hbel.cell (by exact hh)).trans (hc j u hu)) k s hs
      have hltz : (k : Int) < (n : Int) := by omega
      have hk0 : (0 : Int) ≤ (k : Int) := by omega
      have AC := Lib.hid hacc
      have OO := Lib.hid ho
      have BB := Lib.hid hbel
      have HS := Lib.hid hs
      have hgr : g < wr.heap.size := by have := hbel.size; omega
      have NO := Lib.hid (show ∀ u ∈ Sl.cells s, u.oneCell' = true from sl_one1' s)
      go_upto_region 5 with fail
      have BV := Lib.hid (show Below w.heap.size w (wr.alloc (Obj.cells #[.int .i64 s.a, .int .i64 s.h] 24)) from BB.out.alloc BB.out.size _)
      have OV := Lib.hid (OO.out.alloc (Obj.cells #[.int .i64 s.a, .int .i64 s.h] 24))
      have X1 : (wr.alloc (Obj.cells #[.int .i64 s.a, .int .i64 s.h] 24)).cell? ⟨wr.heap.size, 0, none⟩ = some (.int .i64 s.a) := by go_simp
      have X2 : (wr.alloc (Obj.cells #[.int .i64 s.a, .int .i64 s.h] 24)).cell? ⟨wr.heap.size, 1, none⟩ = some (.int .i64 s.h) := by go_simp
      have hFV : wr.heap.size < (wr.alloc (Obj.cells #[.int .i64 s.a, .int .i64 s.h] 24)).heap.size := by simp
      obtain ⟨F, hF⟩ : ∃ F, F = wr.heap.size := ⟨_, rfl⟩
      rw [← hF] at X1 X2 hFV
      rw [← hF]
      have hwF := Lib.hid (show w.heap.size ≤ F by have := BB.out.size; omega)
      have OF := Lib.hid (show ∀ j, u3.ownBlock = some j → w.heap.size ≤ j ∧ j < F from fun j hj => by have := OO.out.lt j hj; omega)
      clear hacc ho hbel hs hc c0 c1 hF OO BB
      generalize wr.alloc (Obj.cells #[.int .i64 s.a, .int .i64 s.h] 24) = V at *
      rcases List.eq_nil_or_concat out with rfl | ⟨o, x, rfl⟩
      · have AC2 := Lib.hid (acc_apart AC.out AS.out HS.out (fun x hx => by cases hx))
        obtain ⟨a3, c3, rfl, _, _, _⟩ := own_row sl_len (by decide) OV.out
        go_wp2_with fail
        go_big_region_o
        have B2 := Lib.hid BV.out.drew
        have P2 := Lib.hid (show V.drew.ownsRow w.heap.size 24 2 (.slice a3 0 c3) 0 (flat Sl.cells []) from OV.out)
        have x0 : V.drew.cell? ⟨F, 0, none⟩ = some (.int .i64 s.a) := X1
        have x1 : V.drew.cell? ⟨F, 1, none⟩ = some (.int .i64 s.h) := X2
        clear X1 X2 OV BV hFV
        generalize V.drew = U at *
        go_wp2_with (at_builtin; refine wpList_append_own _ rfl _ _ 22 rfl w.heap.size 24 i2 (.agg #[.int .i64 0, .int .i64 0]) 2 16 Try.underlying22 hi2 hy0 hy1 hy2 rfl (by decide) _ _ _ rfl (P2.out.alloc _) ⟨U.heap.size, 0, none⟩ 1 1 (Sl.cells s) rfl rfl (new_cells _ _ _) NO.out (by unfold maxLen; omega) (by omega) (by have := B2.out.size; simp; omega) ?_)
        intro v5 w5 own5 gr5 _
        have Q5 := Lib.hid own5
        have B5 := Lib.hid (show Below w.heap.size w w5 from (B2.out.alloc B2.out.size _).grown gr5 (by have := B2.out.size; simp; omega) (fun j hj => (P2.out.lt j hj).1))
        clear own5 gr5
        go_wp2_with fail
        go_roundw
        case rel => exact ⟨k + 1, [s], by omega, by go_num, AC2.out, by simp, by have h := Q5.out; rw [show flat Sl.cells ([] : List Sl) = [] from rfl] at h; simpa [flat_one] using h, B5.out⟩
        case measure => (simp [RowKit.intOf]; try omega)
      · rw [List.concat_eq_append] at AC OV hlen
        obtain ⟨N, hN⟩ : ∃ N, N = (o ++ [x]).length := ⟨_, rfl⟩
        have hp : N = o.length + 1 := by rw [hN]; simp
        rw [← hN] at OV hlen
        have HN := Lib.hid hN
        clear hN
        rcases OV.out.2 with ⟨_, h0⟩ | ⟨g3, c3, cur3, rfl, hB3, hg3, hc3, _⟩
        · omega
        obtain ⟨p, hpp⟩ : ∃ p, p = o.length := ⟨_, rfl⟩
        have ep : (N : Int) - 1 = (p : Int) := by omega
        have hxp : (o ++ [x])[p]? = some x := by rw [hpp]; simp
        obtain ⟨d0, d1⟩ := slCells (fun j u hj => by have h := OV.out.cells (g := g3) rfl j u hj; rw [Addr.add_lit] at h; exact h) p x hxp
        have hpN : (p : Int) < (N : Int) := by omega
        have hp0 : (0 : Int) ≤ (p : Int) := by omega
        have hp1 : p + 1 ≤ N := by omega
        have hp2 : N ≤ p + 1 := by omega
        have HX := Lib.hid hxp
        have HP := Lib.hid hpp
        clear hxp hp hpp
        simp only [Nat.zero_add] at d0 d1
        have f1 : ∀ w : World, (Instr.field 30 (.agg #[.int .i64 s.lo, .int .i64 s.hi]) 0).run Try.prog w = .ok (.int .i64 s.lo) w := field0 _ _
        have f2 : ∀ w : World, (Instr.field 30 (.agg #[.int .i64 x.lo, .int .i64 x.hi]) 1).run Try.prog w = .ok (.int .i64 x.hi) w := field1 _ _
        have hgV : g3 < V.heap.size := lt_of_block hg3
        have SS := Lib.hid (fun W h hB => spanB V.heap.size V s W h hB)
        have ST := Lib.hid (fun W h hB => spanB V.heap.size V x W h hB)
        have KS := Lib.hid (fun (W : World) (h : Below V.heap.size V W) => (show Below V.heap.size V W ∧ W.cell? ⟨F, 0, none⟩ = some (.int .i64 s.a) ∧ W.cell? ⟨F, 1, none⟩ = some (.int .i64 s.h) ∧ W.cell? ⟨g3, p * 2, none⟩ = some (.int .i64 x.a) ∧ W.cell? ⟨g3, p * 2 + 1, none⟩ = some (.int .i64 x.h) from
          ⟨h, (h.cell (by exact hFV)).trans X1, (h.cell (by exact hFV)).trans X2, (h.cell (by exact hgV)).trans d0, (h.cell (by exact hgV)).trans d1⟩))
        by_cases hts : s.lo ≤ x.hi
        · go_wp2_with fail
          go_region_held3 (fun W => Below V.heap.size V W ∧ W.cell? ⟨F, 0, none⟩ = some (.int .i64 s.a) ∧ W.cell? ⟨F, 1, none⟩ = some (.int .i64 s.h) ∧ W.cell? ⟨g3, p * 2, none⟩ = some (.int .i64 x.a) ∧ W.cell? ⟨g3, p * 2 + 1, none⟩ = some (.int .i64 x.h))
            (first | exact KS.out _ (Below.refl _ _).drew | exact KS.out _ (by assumption) | assumption)
            (first
              | (go_at_call 11; (with_reducible refine (SS.out _ (And.left (by assumption)) (And.left (a := Below V.heap.size V _) (by assumption)).size).mono ?_); rintro e w' ⟨rfl, hb⟩)
              | (go_at_call 11; (with_reducible refine (ST.out _ (And.left (by assumption)) (And.left (a := Below V.heap.size V _) (by assumption)).size).mono ?_); rintro e w' ⟨rfl, hb⟩))
          have hbW : Below V.heap.size V w' := And.left (by assumption)
          have B2 := Lib.hid (BV.out.trans (hbW.mono BV.out.size))
          have O2 := Lib.hid (own_below OV.out hbW)
          have x0 : w'.cell? ⟨F, 0, none⟩ = some (.int .i64 s.a) := (hbW.cell (by exact hFV)).trans X1
          have x1 : w'.cell? ⟨F, 1, none⟩ = some (.int .i64 s.h) := (hbW.cell (by exact hFV)).trans X2
          have y0 : w'.cell? ⟨g3, p * 2, none⟩ = some (.int .i64 x.a) := (hbW.cell (by exact hgV)).trans d0
          have y1 : w'.cell? ⟨g3, p * 2 + 1, none⟩ = some (.int .i64 x.h) := (hbW.cell (by exact hgV)).trans d1
          have hgW : g3 < w'.heap.size := Nat.lt_of_lt_of_le hgV hbW.size
          have hFW : F < w'.heap.size := Nat.lt_of_lt_of_le hFV hbW.size
          have fz : ∀ j, w'.frozen? ⟨g3, j, none⟩ = false := fun j => by
            rw [hbW.frozen (by exact hgV)]
            unfold World.frozen?
            rw [hg3]
            simp
          have FZ := Lib.hid fz
          have JJ := Lib.hid (fun W => joinAt x s W)
          have NEW := Lib.hid (acc_join AC.out AS.out HS.out hts)
          obtain ⟨ja, hja⟩ : ∃ v, v = (joinF x s).a := ⟨_, rfl⟩
          obtain ⟨jh, hjh⟩ : ∃ v, v = (joinF x s).h := ⟨_, rfl⟩
          have JA := Lib.hid hja
          have JH := Lib.hid hjh
          rw [← hja, ← hjh] at JJ
          clear hbW X1 X2 d0 d1 KS SS ST hja hjh fz hg3
          rename_i hHeldS
          clear hHeldS
          generalize w' = U at *
          go_wp2_with fail
          go_region_law (first
            | (go_simp; go_at_call 21; (with_reducible refine (JJ.out _).mono ?_); rintro e w3 ⟨rfl, hj⟩; have hk : Below U.heap.size U w3 := ⟨hj.os, hj.tape, hj.output, hj.size, hj.block⟩; have z0 : w3.cell? ⟨g3, p * 2, none⟩ = some (.int .i64 x.a) := (hk.cell (by exact hgW)).trans y0; have z1 : w3.cell? ⟨g3, p * 2 + 1, none⟩ = some (.int .i64 x.h) := (hk.cell (by exact hgW)).trans y1; have z2 : w3.frozen? ⟨g3, p * 2, none⟩ = false := (hk.frozen (by exact hgW)).trans (FZ.out _); have z3 : w3.frozen? ⟨g3, p * 2 + 1, none⟩ = false := (hk.frozen (by exact hgW)).trans (FZ.out _); have B3 := Lib.hid (B2.out.trans (Below.mono hk B2.out.size)); have O3 := Lib.hid (own_below O2.out hk); clear hj hk))
          all_goals
            have O4 := Lib.hid (sl_set O3.out x (joinF x s) HX.out)
            have B4 := Lib.hid ((B3.out.setCell (p := ⟨g3, p * 2, none⟩) hB3 (.int .i64 (joinF x s).a)).setCell (p := ⟨g3, p * 2 + 1, none⟩) hB3 (.int .i64 (joinF x s).h))
            rw [← JA.out, ← JH.out] at O4 B4
            clear z0 z1 z2 z3 O3 B3
            generalize ((w3.setCell _ _).setCell _ _) = w4 at *
            go_wp2_with fail
            go_roundw
            case rel => exact ⟨k + 1, o ++ [joinF x s], by omega, by go_num, NEW.out, by have := HN.out; simp at this ⊢; omega, by have h := O4.out; rw [HP.out, set_last] at h; rw [show (o ++ [joinF x s]).length = N by have := HN.out; simp at this ⊢; omega]; exact h, B4.out⟩
            case measure => (simp [RowKit.intOf]; try omega)
        · have hts' : x.hi < s.lo := by omega
          have NEW := Lib.hid (acc_apart AC.out AS.out HS.out (fun z hz => by simp at hz; subst hz; exact hts'))
          go_wp2_with fail
          go_region_held3 (fun W => Below V.heap.size V W ∧ W.cell? ⟨F, 0, none⟩ = some (.int .i64 s.a) ∧ W.cell? ⟨F, 1, none⟩ = some (.int .i64 s.h) ∧ W.cell? ⟨g3, p * 2, none⟩ = some (.int .i64 x.a) ∧ W.cell? ⟨g3, p * 2 + 1, none⟩ = some (.int .i64 x.h))
            (first | exact KS.out _ (Below.refl _ _).drew | exact KS.out _ (by assumption) | assumption)
            (first
              | (go_at_call 11; (with_reducible refine (SS.out _ (And.left (by assumption)) (And.left (a := Below V.heap.size V _) (by assumption)).size).mono ?_); rintro e w' ⟨rfl, hb⟩)
              | (go_at_call 11; (with_reducible refine (ST.out _ (And.left (by assumption)) (And.left (a := Below V.heap.size V _) (by assumption)).size).mono ?_); rintro e w' ⟨rfl, hb⟩))
          have hbW : Below V.heap.size V w' := And.left (by assumption)
          have B2 := Lib.hid (BV.out.trans (hbW.mono BV.out.size))
          have P2 := Lib.hid (own_below OV.out hbW)
          have x0 : w'.cell? ⟨F, 0, none⟩ = some (.int .i64 s.a) := (hbW.cell (by exact hFV)).trans X1
          have x1 : w'.cell? ⟨F, 1, none⟩ = some (.int .i64 s.h) := (hbW.cell (by exact hFV)).trans X2
          clear hbW X1 X2 d0 d1 KS SS ST hg3
          rename_i hHeldS
          clear hHeldS
          generalize w' = U at *
          go_wp2_with (at_builtin; refine wpList_append_own _ rfl _ _ 22 rfl w.heap.size 24 i2 (.agg #[.int .i64 0, .int .i64 0]) 2 16 Try.underlying22 hi2 hy0 hy1 hy2 rfl (by decide) _ _ _ rfl (P2.out.alloc _) ⟨U.heap.size, 0, none⟩ 1 1 (Sl.cells s) rfl rfl (new_cells _ _ _) NO.out (by unfold maxLen; omega) (by omega) (by have := B2.out.size; simp; omega) ?_)
          intro v5 w5 own5 gr5 _
          have Q5 := Lib.hid own5
          have B5 := Lib.hid (show Below w.heap.size w w5 from (B2.out.alloc B2.out.size _).grown gr5 (by have := B2.out.size; simp; omega) (fun j hj => (P2.out.lt j hj).1))
          clear own5 gr5
          go_wp2_with fail
          go_roundw
          case rel => exact ⟨k + 1, o ++ [x] ++ [s], by omega, by go_num, NEW.out, by have := HN.out; rw [List.length_append, ← this]; simp; omega, by rw [List.length_append, ← HN.out, flat_append, flat_one]; exact Q5.out, B5.out⟩
          case measure => (simp [RowKit.intOf]; try omega)
    · obtain rfl : k = n := by omega
      have hkn : ¬ (k : Int) < (k : Int) := by omega
      have N1 := Lib.hid (acc_end (by rw [HL.out.1]; exact hacc))
      have O1 := Lib.hid ho
      have B1 := Lib.hid hbel
      clear hacc ho hbel
      go_wp2
      go_ret
      first | exact ⟨_, rfl, out, N1.out, O1.out, B1.out⟩ | exact ⟨_, out, rfl, N1.out, O1.out, B1.out⟩
end Go.Proofs.Ytdpmkfjomkemhaa
