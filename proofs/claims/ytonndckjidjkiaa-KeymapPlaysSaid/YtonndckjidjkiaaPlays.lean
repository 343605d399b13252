/- The walk of KeymapPlays. Conditions: the deeds lie in memory. -/
import Derived.Test.YtonndckjidjkiaaPlayA
import Derived.Deep.LoopGhost
namespace Go.Proofs.Ytonndckjidjkiaa
open Go Go.RowKit

theorem first_once : Once first50 := by
  unfold Once
  decide
theorem both_at {x : Ky} {bs ls : List Bn} {j : Nat} (h : Alike bs ls) (hj : atZ x ls = j) : ∃ i : Nat, atZ x bs = i ∧ i < bs.length ∧ ∃ y, bs[i]? = some y ∧ y.ky = x := by
  rcases at_find (x := x) (rs := bs) with ⟨hi, _⟩ | ⟨i, hi, hil, y, hy, hk, _⟩
  · have h1 := look_atZ.1 hi
    rw [h.says] at h1
    have h2 := look_atZ.2 h1
    omega
  · exact ⟨i, hi, hil, y, hy, hk⟩
theorem tail2 (w : World) (mb lc n : Nat) (la : Option Addr) (bs ls : List Bn) (x : Ky) (w2 : World) (hn : n = ls.length) (ho : w2.ownsRow w.heap.size 39 4 (.slice la n lc) n (flat ls)) (hm : MapAt w2 w.heap.size mb bs) (ha : Alike bs ls) :
    ∃ F, Hid (∀ W, Below w2.heap.size w2 W → Calls Try.prog 6 #[.pointer (some ⟨mb, 0, none⟩), .agg #[.int .i64 x.k, .int .i32 x.r, .int .i64 x.m]] W fun e w' => e = .returned (.int .i64 F) ∧ Below w2.heap.size w2 w') ∧
      Hid (∀ W, Below w2.heap.size w2 W → Calls Try.prog 7 #[.slice la n lc, .int .i64 x.k, .int .i32 x.r, .int .i64 x.m] W fun e w' => e = .returned (.int .i64 F) ∧ Below w2.heap.size w2 w') := by
  obtain ⟨hl, _⟩ := own_lat ho
  have h100 : ls.length ≤ 100 := by have := hm.len; have := ha.len; omega
  refine ⟨findZ x bs, Lib.hid fun W b => calls_base (find mb _ x bs W (hm.below b)) b, Lib.hid fun W b => ?_⟩
  rw [ha.find, hn]
  exact calls_base (refFind la x ls lc W (hl.below b) h100) b
theorem first_alike : Alike first50 first50 := ⟨rfl, fun _ => rfl, first_once, first_once⟩

set_option maxHeartbeats 16000000 in
set_option maxRecDepth 100000 in
theorem play_main (da : Option Addr) (m c : Nat) (ds : List Dd) (w : World) (hm : m ≤ 200) (hds : Rowz 5 Dd.cells w da m ds) :
    Calls Try.prog 4 #[.slice da m c] w fun e w' => e = .returned (.bool true) ∧ Below w.heap.size w w' := by
  obtain ⟨i1, hi1, hy0, hy1, hy2⟩ := info_parts Try.info39
  have K := Lib.hid knows
  have N := Lib.hid (new w)
  have DS := Lib.hid hds
  have hz : ¬ (200 : Int) < (m : Int) := by omega
  clear hds
  go_enter Try.func4, Try.ntmps4
  go_wp2_with fail
  (with_reducible refine N.out.mono ?_)
  rintro e w1 ⟨mb, hmb, rfl, m1, b1⟩
  have M1 := Lib.hid m1
  have B1 := Lib.hid b1
  have RF := Lib.hid (refFirst w1)
  clear m1 b1
  go_wp2_with fail
  (with_reducible refine RF.out.mono ?_)
  rintro e w2 ⟨rfl, hw2⟩
  have b2 : Below w1.heap.size w1 w2 := by subst hw2; exact (Below.refl _ _).alloc (Nat.le_refl _) _
  have o2 : w2.ownsRow w.heap.size 39 4 (.slice (some ⟨w1.heap.size, 0, none⟩) 50 50) 50 (flat first50) :=
    ⟨by kernel_rfl, .inr ⟨w1.heap.size, 50, _, rfl, B1.out.size, by rw [hw2]; exact heap_alloc_new _ _, Nat.le_refl _, by decide, by kernel_rfl, by kernel_rfl⟩⟩
  have S1 := Lib.hid (show Stand w mb (.slice (some ⟨w1.heap.size, 0, none⟩) 50 50) w2 from ⟨_, _, _, first50, first50, rfl, first_len.symm, o2, M1.out.below b2, first_alike, B1.out.trans (b2.mono B1.out.size)⟩)
  clear b2 o2 hw2
  go_wp2_with fail
  go_loopg [4, 5] m (fun gg l i wr => ∃ k : Nat, k ≤ m ∧ m - k ≤ gg ∧ i = .int .i64 k ∧ Stand w mb l wr)
  case atStart => exact ⟨0, Nat.zero_le _, by omega, rfl, S1.out⟩
  case round =>
    obtain ⟨k, hk, hgg, rfl, hst⟩ := hrel
    obtain ⟨la, lc, n, bs, ls, rfl, hn, hO, hM, hA, hbel⟩ := hst
    have HN := Lib.hid hn
    have AL := Lib.hid hA
    by_cases hkm : k < m
    · obtain ⟨dd, hdd⟩ : ∃ dd, ds[k]? = some dd := ⟨ds[k]'(by have := DS.out.1; omega), by simp⟩
      rcases DS.out.2 with h0 | ⟨b, off, rfl, hb, hc⟩
      · omega
      have c0 := (hbel.cell (by exact hb)).trans (hc k dd hdd 0 _ rfl)
      have c1 := (hbel.cell (by exact hb)).trans (hc k dd hdd 1 _ rfl)
      have c2 := (hbel.cell (by exact hb)).trans (hc k dd hdd 2 _ rfl)
      have c3 := (hbel.cell (by exact hb)).trans (hc k dd hdd 3 _ rfl)
      have c4 := (hbel.cell (by exact hb)).trans (hc k dd hdd 4 _ rfl)
      have hkz : (k : Int) < (m : Int) := by omega
      have hk0 : (0 : Int) ≤ (k : Int) := by omega
      simp only [Nat.add_zero] at c0 c1 c2 c3 c4
      have bb := Below.alloc (Below.refl wr.heap.size wr) (Nat.le_refl _) (Obj.cells #[.int .i64 dd.what, .int .i64 dd.n, .int .i64 dd.x.k, .int .i32 dd.x.r, .int .i64 dd.x.m] 35)
      have XX0 := row5 wr dd
      have hO1 := own_below hO bb
      have hM1 := hM.below bb
      have hB1 := hbel.trans (bb.mono hbel.size)
      obtain ⟨xb, hxb⟩ : ∃ xb, xb = wr.heap.size := ⟨_, rfl⟩
      have hxw : mb < xb := by have := hM.lt; omega
      have hwx : w.heap.size ≤ xb := by have := hbel.size; omega
      have h100 : n ≤ 100 := by have := hM.len; have := hA.len; omega
      have RA := refAt la lc dd.x ls _ (by omega) (own_lat hO1).1.row
      rw [← hn] at RA
      obtain ⟨J, hJ⟩ : ∃ J, J = atZ dd.x ls := ⟨_, rfl⟩
      rw [← hJ] at RA
      have HJ := Lib.hid hJ
      have RAt := Lib.hid RA
      rw [← hxb] at XX0
      have XY := Lib.hid XX0
      have OY := Lib.hid hO1
      have MY := Lib.hid hM1
      have BY := Lib.hid hB1
      have EX := Lib.hid hxb
      have hlen := Lib.hid hA.len
      clear hO hM hbel hc hdd hA hn bb XX0 hO1 hM1 hB1 RA hJ
      obtain ⟨what, dn, ⟨xk, xr, xm⟩, hdn⟩ := dd
      simp only at c0 c1 c2 c3 c4 XY RAt HJ
      go_wp2_with fail
      (with_reducible refine RAt.out.mono ?_)
      rintro e W ⟨rfl, bw⟩
      rw [← EX.out]
      have XX := Lib.hid (XY.out.of_block (bw.block xb XY.out.lt))
      have OO := Lib.hid (own_below OY.out bw)
      have MM := Lib.hid (MY.out.below bw)
      have BB := Lib.hid (BY.out.trans (bw.mono BY.out.size))
      have hxW : xb < W.heap.size := XX.out.lt
      obtain ⟨d0, d1, d2, d3, d4⟩ := row5_cells XX.out
      simp only at d0 d1 d2 d3 d4
      clear bw hxb XY OY MY BY RAt c0 c1 c2 c3 c4 EX
      by_cases hw0 : what = 0
      · subst hw0
        have IS := refIs dn hdn
        cases hcm : cmdB dn with
        | false =>
          rw [hcm] at IS
          have II := Lib.hid IS
          have G := Lib.hid (bind_bad mb w.heap.size ⟨xk, xr, xm⟩ dn bs W MM.out (by omega) hdn hcm)
          clear IS hcm
          as_aux_lemma =>
            unfold Ky.val at G
            simp only at G
            go_wp2_with fail
            (with_reducible refine G.out.mono ?_)
            rintro e w2 ⟨rfl, m2, k2, b2⟩
            have X2 := Lib.hid (k2.rowIs XX.out (by decide) (by omega))
            have O2 := Lib.hid (own_kept OO.out k2 MM.out)
            have M2 := Lib.hid m2
            have B2 := Lib.hid (BB.out.trans b2)
            obtain ⟨x0, x1, x2, x3, x4⟩ := row5_cells X2.out
            simp only at x0 x1 x2 x3 x4
            have hx2 : xb < w2.heap.size := X2.out.lt
            clear m2 k2 b2 d0 d1 d2 d3 d4
            go_wp2_with fail
            (with_reducible refine (II.out _).mono ?_)
            rintro e w' ⟨rfl, rfl⟩
            have A2 := Lib.hid AL.out
            obtain ⟨F, FF, FR, KS, ST⟩ := tail w mb xb lc n la bs ls ⟨0, dn, ⟨xk, xr, xm⟩, hdn⟩ w2 HN.out O2.out M2.out A2.out B2.out X2.out
            simp only at FF FR KS
            clear OO MM AL BB XX O2 M2 A2 B2 X2
            go_wp2_with fail
            go_region_held3 (fun W' => Below w2.heap.size w2 W' ∧ W'.cell? ⟨xb, 2, none⟩ = some (.int .i64 xk) ∧ W'.cell? ⟨xb, 3, none⟩ = some (.int .i32 xr) ∧ W'.cell? ⟨xb, 4, none⟩ = some (.int .i64 xm)) (first | exact KS.out _ (Below.refl _ _).drew | exact KS.out _ (by assumption) | assumption)
              (first
                | (go_at_call 6; (with_reducible refine (FF.out _ (And.left (by assumption))).mono ?_); rintro e w' ⟨rfl, hb⟩)
                | (go_at_call 7; (with_reducible refine (FR.out _ (And.left (by assumption))).mono ?_); rintro e w' ⟨rfl, hb⟩))
            have SS := Lib.hid (ST.out _ (And.left (a := Below w2.heap.size w2 _) (by assumption)))
            go_wp2
            go_roundg (m - (k + 1))
            case measure => omega
            case rel => exact ⟨k + 1, by omega, by omega, by go_num, SS.out⟩
        | true =>
          rw [hcm] at IS
          have II := Lib.hid IS
          have CM := Lib.hid hcm
          clear IS hcm
          rcases at_find (x := ⟨xk, xr, xm⟩) (rs := ls) with ⟨hj, _⟩ | ⟨j, hj, hjl, yl, hyl, hyk, _⟩
          · have hJ1 : J = -1 := by rw [HJ.out, hj]
            have hib : atZ ⟨xk, xr, xm⟩ bs = -1 := look_atZ.2 (by rw [AL.out.says]; exact look_atZ.1 hj)
            have LN := Lib.hid (look_atZ.1 hj)
            subst hJ1
            clear hj HJ
            by_cases hfull : 100 ≤ n
            · have G := Lib.hid (bind_full mb w.heap.size ⟨xk, xr, xm⟩ dn bs W MM.out (by omega) hdn CM.out hib (by have := hlen.out; have := HN.out; omega))
              have hfz : (100 : Int) ≤ (n : Int) := by omega
              clear hib
              as_aux_lemma =>
                unfold Ky.val at G
                simp only at G
                go_wp2_with fail
                (with_reducible refine G.out.mono ?_)
                rintro e w2 ⟨rfl, m2, k2, b2⟩
                have X2 := Lib.hid (k2.rowIs XX.out (by decide) (by omega))
                have O2 := Lib.hid (own_kept OO.out k2 MM.out)
                have M2 := Lib.hid m2
                have B2 := Lib.hid (BB.out.trans b2)
                obtain ⟨x0, x1, x2, x3, x4⟩ := row5_cells X2.out
                simp only at x0 x1 x2 x3 x4
                have hx2 : xb < w2.heap.size := X2.out.lt
                clear m2 k2 b2 d0 d1 d2 d3 d4
                go_wp2_with fail
                (with_reducible refine (II.out _).mono ?_)
                rintro e w' ⟨rfl, rfl⟩
                have A2 := Lib.hid AL.out
                obtain ⟨F, FF, FR, KS, ST⟩ := tail w mb xb lc n la bs ls ⟨0, dn, ⟨xk, xr, xm⟩, hdn⟩ w2 HN.out O2.out M2.out A2.out B2.out X2.out
                simp only at FF FR KS
                clear OO MM AL BB XX O2 M2 A2 B2 X2
                go_wp2_with fail
                go_region_held3 (fun W' => Below w2.heap.size w2 W' ∧ W'.cell? ⟨xb, 2, none⟩ = some (.int .i64 xk) ∧ W'.cell? ⟨xb, 3, none⟩ = some (.int .i32 xr) ∧ W'.cell? ⟨xb, 4, none⟩ = some (.int .i64 xm)) (first | exact KS.out _ (Below.refl _ _).drew | exact KS.out _ (by assumption) | assumption)
                  (first
                    | (go_at_call 6; (with_reducible refine (FF.out _ (And.left (by assumption))).mono ?_); rintro e w' ⟨rfl, hb⟩)
                    | (go_at_call 7; (with_reducible refine (FR.out _ (And.left (by assumption))).mono ?_); rintro e w' ⟨rfl, hb⟩))
                have SS := Lib.hid (ST.out _ (And.left (a := Below w2.heap.size w2 _) (by assumption)))
                go_wp2
                go_roundg (m - (k + 1))
                case measure => omega
                case rel => exact ⟨k + 1, by omega, by omega, by go_num, SS.out⟩
            · have G := Lib.hid (bind_more mb w.heap.size ⟨xk, xr, xm⟩ dn bs W MM.out hmb hdn CM.out hib (by have := hlen.out; have := HN.out; omega))
              have hfz : ¬ (100 : Int) ≤ (n : Int) := by omega
              clear hib
              as_aux_lemma =>
                unfold Ky.val at G
                simp only at G
                have AM := Lib.hid (AL.out.more dn LN.out)
                go_wp2_with fail
                (with_reducible refine G.out.mono ?_)
                rintro e w2 ⟨rfl, m2, k2, b2⟩
                have X2 := Lib.hid (k2.rowIs XX.out (by decide) (by omega))
                have O2 := Lib.hid (own_kept OO.out k2 MM.out)
                have M2 := Lib.hid m2
                have B2 := Lib.hid (BB.out.trans b2)
                obtain ⟨x0, x1, x2, x3, x4⟩ := row5_cells X2.out
                simp only at x0 x1 x2 x3 x4
                have hx2 : xb < w2.heap.size := X2.out.lt
                clear m2 k2 b2 d0 d1 d2 d3 d4
                go_wp2_with fail
                (with_reducible refine (II.out _).mono ?_)
                rintro e w' ⟨rfl, rfl⟩
                go_wp2_with (at_builtin; refine wpList_append_own _ rfl _ _ 28 rfl w.heap.size 39 i1 _ 4 32 Try.underlying28 hi1 hy0 hy1 hy2 rfl (by decide) _ _ _ rfl (O2.out.alloc _) ⟨w2.heap.size, 0, none⟩ 1 1 (Bn.cells ⟨xk, xr, xm, dn⟩) rfl rfl (new4 w2 ⟨xk, xr, xm, dn⟩ 39) (cells_one1 _) (by unfold maxLen; omega) (by omega) (by simp; omega) ?_)
                intro v9 w9 own9 gr9 _
                obtain ⟨la9, lc9, rfl⟩ := own_form2 own9
                have bal := Below.alloc (Below.refl w2.heap.size w2) (Nat.le_refl _) (Obj.cells #[.int .i64 xk, .int .i32 xr, .int .i64 xm, .int .i64 dn] 39)
                have X9 := Lib.hid (row_grown (X2.out.alloc _) (by decide) (O2.out.alloc _) gr9)
                have M9 := Lib.hid ((M2.out.below bal).grown (O2.out.alloc _) gr9)
                have B9 := Lib.hid (show Below w.heap.size w w9 from (B2.out.alloc B2.out.size _).grown gr9 (by have := B2.out.size; simp; omega) (fun k hk => (O2.out.lt k hk).1))
                have O9 := Lib.hid (show w9.ownsRow w.heap.size 39 4 (.slice la9 (n + 1) lc9) (n + 1) (flat (ls ++ [Ky.with ⟨xk, xr, xm⟩ dn])) by rw [flat_append, flat_one]; exact own9)
                have HN9 := Lib.hid (show n + 1 = (ls ++ [Ky.with ⟨xk, xr, xm⟩ dn]).length by rw [List.length_append, List.length_singleton, HN.out])
                obtain ⟨y0, y1, y2, y3, y4⟩ := row5_cells X9.out
                simp only at y0 y1 y2 y3 y4
                have hx9 : xb < w9.heap.size := X9.out.lt
                clear own9 gr9 bal
                clear x0 x1 x2 x3 x4
                have A9 := Lib.hid AM.out
                obtain ⟨F, FF, FR, KS, ST⟩ := tail w mb xb lc9 (n + 1) la9 (bs ++ [Ky.with ⟨xk, xr, xm⟩ dn]) (ls ++ [Ky.with ⟨xk, xr, xm⟩ dn]) ⟨0, dn, ⟨xk, xr, xm⟩, hdn⟩ w9 HN9.out O9.out M9.out A9.out B9.out X9.out
                simp only at FF FR KS
                clear OO MM AL BB XX O9 M9 A9 B9 X9
                go_wp2_with fail
                go_region_held3 (fun W' => Below w9.heap.size w9 W' ∧ W'.cell? ⟨xb, 2, none⟩ = some (.int .i64 xk) ∧ W'.cell? ⟨xb, 3, none⟩ = some (.int .i32 xr) ∧ W'.cell? ⟨xb, 4, none⟩ = some (.int .i64 xm)) (first | exact KS.out _ (Below.refl _ _).drew | exact KS.out _ (by assumption) | assumption)
                  (first
                    | (go_at_call 6; (with_reducible refine (FF.out _ (And.left (by assumption))).mono ?_); rintro e w' ⟨rfl, hb⟩)
                    | (go_at_call 7; (with_reducible refine (FR.out _ (And.left (by assumption))).mono ?_); rintro e w' ⟨rfl, hb⟩))
                have SS := Lib.hid (ST.out _ (And.left (a := Below w9.heap.size w9 _) (by assumption)))
                go_wp2
                go_roundg (m - (k + 1))
                case measure => omega
                case rel => exact ⟨k + 1, by omega, by omega, by go_num, SS.out⟩
          · have hJ1 : J = j := by rw [HJ.out, hj]
            subst hJ1
            obtain ⟨i, hi, hil, yb, hyb, hybk⟩ := both_at AL.out hj
            have G := Lib.hid (bind_hit mb w.heap.size ⟨xk, xr, xm⟩ dn bs i W MM.out hmb hdn CM.out hi ⟨yb, hyb, hybk⟩)
            have AN := Lib.hid (AL.out.anew dn hi hj)
            have hjn : j < n := by have := HN.out; omega
            clear hi hil hyb hybk hyl hyk hjl hj HJ
            as_aux_lemma =>
              have LL := Lib.hid (own_lat OO.out).1
              have hqz : (j : Int) < (n : Int) := by omega
              have hq0 : (0 : Int) ≤ (j : Int) := by omega
              have hqn : ¬ (j : Int) < 0 := by omega
              have hwr : IntKind.i64.wrap ((j : Int) + 1) = (j : Int) + 1 := IntWalk.i64_in _ (by omega)
              have hq1 : (0 : Int) ≤ (j : Int) + 1 := by omega
              have hq2 : (j : Int) + 1 ≤ (n : Int) := by omega
              have hs1 := slice_to la n lc j (by have := LL.out.cap; have := HN.out; omega)
              obtain ⟨a2, hs2, hn2, tr2⟩ := row_from la n lc j hjn (by have := LL.out.cap; have := HN.out; omega) (fun h => by have := LL.out.nil h; have := HN.out; omega)
              have TR := Lib.hid tr2
              have N1 := Lib.hid (show la = none → j = 0 ∧ lc = 0 from fun h => by have := LL.out.nil h; have := HN.out; omega)
              have N2 := Lib.hid hn2
              have LX := Lib.hid (show (flat (ls.take j)).length = j * 4 by rw [flat_len, List.length_take]; have := HN.out; omega)
              have LZ := Lib.hid (show (flat (ls.drop (j + 1))).length = (n - (j + 1)) * 4 by rw [flat_len, List.length_drop, HN.out])
              obtain ⟨n3, hn3⟩ : ∃ n3, n3 = 0 + j + (n - (j + 1)) := ⟨_, rfl⟩
              have N3 := Lib.hid hn3
              have HN3 := Lib.hid (show n3 = (ls.eraseIdx j).length by rw [List.length_eraseIdx, if_pos (by have := HN.out; omega), hn3]; have := HN.out; omega)
              have hn3b : n3 ≤ 100 := by omega
              clear hn2 tr2 hn3
              unfold Ky.val at G
              simp only at G
              go_wp2_with fail
              (with_reducible refine G.out.mono ?_)
              rintro e w2 ⟨rfl, m2, k2, b2⟩
              have X2 := Lib.hid (k2.rowIs XX.out (by decide) (by omega))
              have O2 := Lib.hid (own_kept OO.out k2 MM.out)
              have M2 := Lib.hid m2
              have B2 := Lib.hid (BB.out.trans b2)
              obtain ⟨x0, x1, x2, x3, x4⟩ := row5_cells X2.out
              simp only at x0 x1 x2 x3 x4
              have hx2 : xb < w2.heap.size := X2.out.lt
              clear m2 k2 b2 d0 d1 d2 d3 d4
              go_wp2_with fail
              (with_reducible refine (II.out _).mono ?_)
              rintro e w' ⟨rfl, rfl⟩
              have L2 := Lib.hid (show RowAt 39 w2 la n ls by have := (own_lat O2.out).1.row; rwa [← HN.out] at this)
              have LIT := Lib.hid (show ((w2.alloc (Obj.cells #[] 39)).drew).ownsRow w2.heap.size 39 4 (.slice (some ⟨w2.heap.size, 0, none⟩) 0 0) 0 [] from World.ownsRow_lit w2 #[] 0 (Nat.le_refl _) (by unfold maxLen; omega) rfl)
              have LIT2 := Lib.hid (show ((w2.drew).alloc (Obj.cells #[] 39)).ownsRow w2.heap.size 39 4 (.slice (some ⟨w2.heap.size, 0, none⟩) 0 0) 0 [] from World.ownsRow_lit w2.drew #[] 0 (Nat.le_refl _) (by unfold maxLen; omega) rfl)
              go_wp2_with fail
              go_region_law (first
                | (refine step_append_in rfl (.tmp 77) (.tmp 80) 28 rfl w2.heap.size 39 i1 _ 4 32 Try.underlying28 hi1 hy0 hy1 hy2 rfl (by decide) (.slice (some ⟨w2.heap.size, 0, none⟩) 0 0) 0 [] (by simp [Act.eval]) (by first | exact LIT.out | exact LIT2.out) la j lc (flat (ls.take j)) (by simp [Act.eval]) N1.out LX.out (row_holds (row_take (L2.out.below (by first | exact ((Below.refl _ _).alloc (Nat.le_refl _) _).drew | exact ((Below.refl _ _).drew).alloc (Nat.le_refl _) _)) j (by omega))) (flat_cells_one _) (by unfold maxLen; omega) (by omega) (by simp) ?_; intro v2 w3 own2 gr2; have P2 := Lib.hid own2; have Q2 := Lib.hid (show Below w2.heap.size w2 w3 from (by first | exact ((((Below.refl _ _).alloc (Nat.le_refl _) _).drew).grown gr2 (by simp) (fun k hk => by simp [Value.ownBlock] at hk; omega)) | exact ((((Below.refl _ _).drew).alloc (Nat.le_refl _) _).grown gr2 (by simp) (fun k hk => by simp [Value.ownBlock] at hk; omega)))); clear own2 gr2)
                | (refine step_append_in rfl (.tmp 81) (.tmp 85) 28 rfl w2.heap.size 39 i1 _ 4 32 Try.underlying28 hi1 hy0 hy1 hy2 rfl (by decide) v2 _ _ (by simp [Act.eval]) P2.out a2 (n - (j + 1)) (lc - (j + 1)) (flat (ls.drop (j + 1))) (by simp [Act.eval]) N2.out LZ.out (row_holds (TR.out _ _ _ (L2.out.below Q2.out))) (flat_cells_one _) (by unfold maxLen; omega) (by omega) Q2.out.size ?_; intro v3 w4 own3 gr3; have P3 := Lib.hid own3; have Q3 := Lib.hid (show Below w2.heap.size w2 w4 from Q2.out.grown gr3 Q2.out.size (fun k hk => (P2.out.lt k hk).1)); clear own3 gr3))
              all_goals
                have own := P3.out
                rw [List.nil_append, ← flat_append, ← List.eraseIdx_eq_take_drop_succ, ← N3.out] at own
                obtain ⟨la3, lc3, rfl⟩ := own_form2 own
                have O4 := Lib.hid (own_mono own B2.out.size)
                have M4 := Lib.hid (M2.out.below Q3.out)
                have B4 := Lib.hid (B2.out.trans (Q3.out.mono B2.out.size))
                have X4 := Lib.hid (X2.out.of_block (Q3.out.block xb hx2))
                obtain ⟨z0, z1, z2, z3, z4⟩ := row5_cells X4.out
                simp only at z0 z1 z2 z3 z4
                have hx4 : xb < w4.heap.size := X4.out.lt
                clear own x0 x1 x2 x3 x4 P2 P3 Q2 hs1 hs2
                go_wp2_with (at_builtin; refine wpList_append_own _ rfl _ _ 28 rfl w.heap.size 39 i1 _ 4 32 Try.underlying28 hi1 hy0 hy1 hy2 rfl (by decide) _ _ _ rfl (O4.out.alloc _) ⟨w4.heap.size, 0, none⟩ 1 1 (Bn.cells ⟨xk, xr, xm, dn⟩) rfl rfl (new4 w4 ⟨xk, xr, xm, dn⟩ 39) (cells_one1 _) (by unfold maxLen; omega) (by omega) (by simp; omega) ?_)
                intro v9 w9 own9 gr9 _
                obtain ⟨la9, lc9, rfl⟩ := own_form2 own9
                have bal := Below.alloc (Below.refl w4.heap.size w4) (Nat.le_refl _) (Obj.cells #[.int .i64 xk, .int .i32 xr, .int .i64 xm, .int .i64 dn] 39)
                have X9 := Lib.hid (row_grown (X4.out.alloc _) (by decide) (O4.out.alloc _) gr9)
                have M9 := Lib.hid ((M4.out.below bal).grown (O4.out.alloc _) gr9)
                have B9 := Lib.hid (show Below w.heap.size w w9 from (B4.out.alloc B4.out.size _).grown gr9 (by have := B4.out.size; simp; omega) (fun k hk => (O4.out.lt k hk).1))
                have O9 := Lib.hid (show w9.ownsRow w.heap.size 39 4 (.slice la9 (n3 + 1) lc9) (n3 + 1) (flat ((ls.eraseIdx j) ++ [Ky.with ⟨xk, xr, xm⟩ dn])) by rw [flat_append, flat_one]; exact own9)
                have HN9 := Lib.hid (show n3 + 1 = ((ls.eraseIdx j) ++ [Ky.with ⟨xk, xr, xm⟩ dn]).length by rw [List.length_append, List.length_singleton, HN3.out])
                obtain ⟨y0, y1, y2, y3, y4⟩ := row5_cells X9.out
                simp only at y0 y1 y2 y3 y4
                have hx9 : xb < w9.heap.size := X9.out.lt
                clear own9 gr9 bal
                clear z0 z1 z2 z3 z4
                have A9 := Lib.hid AN.out
                obtain ⟨F, FF, FR, KS, ST⟩ := tail w mb xb lc9 (n3 + 1) la9 (bs.set i (Ky.with ⟨xk, xr, xm⟩ dn)) (ls.eraseIdx j ++ [Ky.with ⟨xk, xr, xm⟩ dn]) ⟨0, dn, ⟨xk, xr, xm⟩, hdn⟩ w9 HN9.out O9.out M9.out A9.out B9.out X9.out
                simp only at FF FR KS
                clear OO MM AL BB XX O9 M9 A9 B9 X9
                go_wp2_with fail
                go_region_held3 (fun W' => Below w9.heap.size w9 W' ∧ W'.cell? ⟨xb, 2, none⟩ = some (.int .i64 xk) ∧ W'.cell? ⟨xb, 3, none⟩ = some (.int .i32 xr) ∧ W'.cell? ⟨xb, 4, none⟩ = some (.int .i64 xm)) (first | exact KS.out _ (Below.refl _ _).drew | exact KS.out _ (by assumption) | assumption)
                  (first
                    | (go_at_call 6; (with_reducible refine (FF.out _ (And.left (by assumption))).mono ?_); rintro e w' ⟨rfl, hb⟩)
                    | (go_at_call 7; (with_reducible refine (FR.out _ (And.left (by assumption))).mono ?_); rintro e w' ⟨rfl, hb⟩))
                have SS := Lib.hid (ST.out _ (And.left (a := Below w9.heap.size w9 _) (by assumption)))
                go_wp2
                go_roundg (m - (k + 1))
                case measure => omega
                case rel => exact ⟨k + 1, by omega, by omega, by go_num, SS.out⟩
      · by_cases hw1 : what = 1
        · subst hw1
          rcases at_find (x := ⟨xk, xr, xm⟩) (rs := ls) with ⟨hj, _⟩ | ⟨j, hj, hjl, yl, hyl, hyk, _⟩
          · have hJ1 : J = -1 := by rw [HJ.out, hj]
            have hib : atZ ⟨xk, xr, xm⟩ bs = -1 := look_atZ.2 (by rw [AL.out.says]; exact look_atZ.1 hj)
            subst hJ1
            have G := Lib.hid (drop_no mb w.heap.size ⟨xk, xr, xm⟩ bs W MM.out (by omega) hib)
            clear hj HJ hib
            as_aux_lemma =>
              unfold Ky.val at G
              simp only at G
              go_wp2_with fail
              (with_reducible refine G.out.mono ?_)
              rintro e w2 ⟨rfl, m2, k2, b2⟩
              have X2 := Lib.hid (k2.rowIs XX.out (by decide) (by omega))
              have O2 := Lib.hid (own_kept OO.out k2 MM.out)
              have M2 := Lib.hid m2
              have B2 := Lib.hid (BB.out.trans b2)
              obtain ⟨x0, x1, x2, x3, x4⟩ := row5_cells X2.out
              simp only at x0 x1 x2 x3 x4
              have hx2 : xb < w2.heap.size := X2.out.lt
              clear m2 k2 b2 d0 d1 d2 d3 d4
              have A2 := Lib.hid AL.out
              obtain ⟨F, FF, FR, KS, ST⟩ := tail w mb xb lc n la bs ls ⟨1, dn, ⟨xk, xr, xm⟩, hdn⟩ w2 HN.out O2.out M2.out A2.out B2.out X2.out
              simp only at FF FR KS
              clear OO MM AL BB XX O2 M2 A2 B2 X2
              go_wp2_with fail
              go_region_held3 (fun W' => Below w2.heap.size w2 W' ∧ W'.cell? ⟨xb, 2, none⟩ = some (.int .i64 xk) ∧ W'.cell? ⟨xb, 3, none⟩ = some (.int .i32 xr) ∧ W'.cell? ⟨xb, 4, none⟩ = some (.int .i64 xm)) (first | exact KS.out _ (Below.refl _ _).drew | exact KS.out _ (by assumption) | assumption)
                (first
                  | (go_at_call 6; (with_reducible refine (FF.out _ (And.left (by assumption))).mono ?_); rintro e w' ⟨rfl, hb⟩)
                  | (go_at_call 7; (with_reducible refine (FR.out _ (And.left (by assumption))).mono ?_); rintro e w' ⟨rfl, hb⟩))
              have SS := Lib.hid (ST.out _ (And.left (a := Below w2.heap.size w2 _) (by assumption)))
              go_wp2
              go_roundg (m - (k + 1))
              case measure => omega
              case rel => exact ⟨k + 1, by omega, by omega, by go_num, SS.out⟩
          · have hJ1 : J = j := by rw [HJ.out, hj]
            subst hJ1
            obtain ⟨i, hi, hil, yb, hyb, hybk⟩ := both_at AL.out hj
            have G := Lib.hid (drop_yes mb w.heap.size ⟨xk, xr, xm⟩ bs i W MM.out hmb hi hil)
            have AN := Lib.hid (AL.out.drop hi hj)
            have hjn : j < n := by have := HN.out; omega
            clear hi hil hyb hybk hyl hyk hjl hj HJ
            as_aux_lemma =>
              have LL := Lib.hid (own_lat OO.out).1
              have hqz : (j : Int) < (n : Int) := by omega
              have hq0 : (0 : Int) ≤ (j : Int) := by omega
              have hqn : ¬ (j : Int) < 0 := by omega
              have hwr : IntKind.i64.wrap ((j : Int) + 1) = (j : Int) + 1 := IntWalk.i64_in _ (by omega)
              have hq1 : (0 : Int) ≤ (j : Int) + 1 := by omega
              have hq2 : (j : Int) + 1 ≤ (n : Int) := by omega
              have hs1 := slice_to la n lc j (by have := LL.out.cap; have := HN.out; omega)
              obtain ⟨a2, hs2, hn2, tr2⟩ := row_from la n lc j hjn (by have := LL.out.cap; have := HN.out; omega) (fun h => by have := LL.out.nil h; have := HN.out; omega)
              have TR := Lib.hid tr2
              have N1 := Lib.hid (show la = none → j = 0 ∧ lc = 0 from fun h => by have := LL.out.nil h; have := HN.out; omega)
              have N2 := Lib.hid hn2
              have LX := Lib.hid (show (flat (ls.take j)).length = j * 4 by rw [flat_len, List.length_take]; have := HN.out; omega)
              have LZ := Lib.hid (show (flat (ls.drop (j + 1))).length = (n - (j + 1)) * 4 by rw [flat_len, List.length_drop, HN.out])
              obtain ⟨n3, hn3⟩ : ∃ n3, n3 = 0 + j + (n - (j + 1)) := ⟨_, rfl⟩
              have N3 := Lib.hid hn3
              have HN3 := Lib.hid (show n3 = (ls.eraseIdx j).length by rw [List.length_eraseIdx, if_pos (by have := HN.out; omega), hn3]; have := HN.out; omega)
              have hn3b : n3 ≤ 100 := by omega
              clear hn2 tr2 hn3
              unfold Ky.val at G
              simp only at G
              go_wp2_with fail
              (with_reducible refine G.out.mono ?_)
              rintro e w2 ⟨rfl, m2, k2, b2⟩
              have X2 := Lib.hid (k2.rowIs XX.out (by decide) (by omega))
              have O2 := Lib.hid (own_kept OO.out k2 MM.out)
              have M2 := Lib.hid m2
              have B2 := Lib.hid (BB.out.trans b2)
              obtain ⟨x0, x1, x2, x3, x4⟩ := row5_cells X2.out
              simp only at x0 x1 x2 x3 x4
              have hx2 : xb < w2.heap.size := X2.out.lt
              clear m2 k2 b2 d0 d1 d2 d3 d4
              have L2 := Lib.hid (show RowAt 39 w2 la n ls by have := (own_lat O2.out).1.row; rwa [← HN.out] at this)
              have LIT := Lib.hid (show ((w2.alloc (Obj.cells #[] 39)).drew).ownsRow w2.heap.size 39 4 (.slice (some ⟨w2.heap.size, 0, none⟩) 0 0) 0 [] from World.ownsRow_lit w2 #[] 0 (Nat.le_refl _) (by unfold maxLen; omega) rfl)
              have LIT2 := Lib.hid (show ((w2.drew).alloc (Obj.cells #[] 39)).ownsRow w2.heap.size 39 4 (.slice (some ⟨w2.heap.size, 0, none⟩) 0 0) 0 [] from World.ownsRow_lit w2.drew #[] 0 (Nat.le_refl _) (by unfold maxLen; omega) rfl)
              go_wp2_with fail
              go_region_law (first
                | (refine step_append_in rfl (.tmp 124) (.tmp 127) 28 rfl w2.heap.size 39 i1 _ 4 32 Try.underlying28 hi1 hy0 hy1 hy2 rfl (by decide) (.slice (some ⟨w2.heap.size, 0, none⟩) 0 0) 0 [] (by simp [Act.eval]) (by first | exact LIT.out | exact LIT2.out) la j lc (flat (ls.take j)) (by simp [Act.eval]) N1.out LX.out (row_holds (row_take (L2.out.below (by first | exact ((Below.refl _ _).alloc (Nat.le_refl _) _).drew | exact ((Below.refl _ _).drew).alloc (Nat.le_refl _) _)) j (by omega))) (flat_cells_one _) (by unfold maxLen; omega) (by omega) (by simp) ?_; intro v2 w3 own2 gr2; have P2 := Lib.hid own2; have Q2 := Lib.hid (show Below w2.heap.size w2 w3 from (by first | exact ((((Below.refl _ _).alloc (Nat.le_refl _) _).drew).grown gr2 (by simp) (fun k hk => by simp [Value.ownBlock] at hk; omega)) | exact ((((Below.refl _ _).drew).alloc (Nat.le_refl _) _).grown gr2 (by simp) (fun k hk => by simp [Value.ownBlock] at hk; omega)))); clear own2 gr2)
                | (refine step_append_in rfl (.tmp 128) (.tmp 132) 28 rfl w2.heap.size 39 i1 _ 4 32 Try.underlying28 hi1 hy0 hy1 hy2 rfl (by decide) v2 _ _ (by simp [Act.eval]) P2.out a2 (n - (j + 1)) (lc - (j + 1)) (flat (ls.drop (j + 1))) (by simp [Act.eval]) N2.out LZ.out (row_holds (TR.out _ _ _ (L2.out.below Q2.out))) (flat_cells_one _) (by unfold maxLen; omega) (by omega) Q2.out.size ?_; intro v3 w4 own3 gr3; have P3 := Lib.hid own3; have Q3 := Lib.hid (show Below w2.heap.size w2 w4 from Q2.out.grown gr3 Q2.out.size (fun k hk => (P2.out.lt k hk).1)); clear own3 gr3))
              all_goals
                have own := P3.out
                rw [List.nil_append, ← flat_append, ← List.eraseIdx_eq_take_drop_succ, ← N3.out] at own
                obtain ⟨la3, lc3, rfl⟩ := own_form2 own
                have O4 := Lib.hid (own_mono own B2.out.size)
                have M4 := Lib.hid (M2.out.below Q3.out)
                have B4 := Lib.hid (B2.out.trans (Q3.out.mono B2.out.size))
                have X4 := Lib.hid (X2.out.of_block (Q3.out.block xb hx2))
                obtain ⟨z0, z1, z2, z3, z4⟩ := row5_cells X4.out
                simp only at z0 z1 z2 z3 z4
                have hx4 : xb < w4.heap.size := X4.out.lt
                clear own x0 x1 x2 x3 x4 P2 P3 Q2 hs1 hs2
                have A4 := Lib.hid AN.out
                go_simp
                obtain ⟨F, FF, FR, KS, ST⟩ := tail w mb xb lc3 n3 la3 (bs.eraseIdx i) (ls.eraseIdx j) ⟨1, dn, ⟨xk, xr, xm⟩, hdn⟩ w4 HN3.out O4.out M4.out A4.out B4.out X4.out
                simp only at FF FR KS
                clear OO MM AL BB XX O4 M4 A4 B4 X4
                go_wp2_with fail
                go_region_held3 (fun W' => Below w4.heap.size w4 W' ∧ W'.cell? ⟨xb, 2, none⟩ = some (.int .i64 xk) ∧ W'.cell? ⟨xb, 3, none⟩ = some (.int .i32 xr) ∧ W'.cell? ⟨xb, 4, none⟩ = some (.int .i64 xm)) (first | exact KS.out _ (Below.refl _ _).drew | exact KS.out _ (by assumption) | assumption)
                  (first
                    | (go_at_call 6; (with_reducible refine (FF.out _ (And.left (by assumption))).mono ?_); rintro e w' ⟨rfl, hb⟩)
                    | (go_at_call 7; (with_reducible refine (FR.out _ (And.left (by assumption))).mono ?_); rintro e w' ⟨rfl, hb⟩))
                have SS := Lib.hid (ST.out _ (And.left (a := Below w4.heap.size w4 _) (by assumption)))
                go_wp2
                go_roundg (m - (k + 1))
                case measure => omega
                case rel => exact ⟨k + 1, by omega, by omega, by go_num, SS.out⟩
        · as_aux_lemma =>
            have X2 := Lib.hid XX.out
            have O2 := Lib.hid OO.out
            have M2 := Lib.hid MM.out
            have B2 := Lib.hid BB.out
            have A2 := Lib.hid AL.out
            obtain ⟨F, FF, FR, KS, ST⟩ := tail w mb xb lc n la bs ls ⟨what, dn, ⟨xk, xr, xm⟩, hdn⟩ W HN.out O2.out M2.out A2.out B2.out X2.out
            simp only at FF FR KS
            clear OO MM AL BB XX O2 M2 A2 B2 X2
            go_wp2_with fail
            go_region_held3 (fun W' => Below W.heap.size W W' ∧ W'.cell? ⟨xb, 2, none⟩ = some (.int .i64 xk) ∧ W'.cell? ⟨xb, 3, none⟩ = some (.int .i32 xr) ∧ W'.cell? ⟨xb, 4, none⟩ = some (.int .i64 xm)) (first | exact KS.out _ (Below.refl _ _).drew | exact KS.out _ (by assumption) | assumption)
              (first
                | (go_at_call 6; (with_reducible refine (FF.out _ (And.left (by assumption))).mono ?_); rintro e w' ⟨rfl, hb⟩)
                | (go_at_call 7; (with_reducible refine (FR.out _ (And.left (by assumption))).mono ?_); rintro e w' ⟨rfl, hb⟩))
            have SS := Lib.hid (ST.out _ (And.left (a := Below W.heap.size W _) (by assumption)))
            go_wp2
            go_roundg (m - (k + 1))
            case measure => omega
            case rel => exact ⟨k + 1, by omega, by omega, by go_num, SS.out⟩
    · as_aux_lemma =>
        have hkz : ¬ (k : Int) < (m : Int) := by omega
        have OZ := Lib.hid hO
        have MZ := Lib.hid hM
        have BZ := Lib.hid hbel
        have RF2 := Lib.hid (refFirst wr)
        clear hO hM hbel hA hn
        go_wp2_with fail
        (with_reducible refine RF2.out.mono ?_)
        rintro e w3 ⟨rfl, hw3⟩
        have b3 : Below wr.heap.size wr w3 := by subst hw3; exact (Below.refl _ _).alloc (Nat.le_refl _) _
        have hlt3 : wr.heap.size < w3.heap.size := by subst hw3; simp
        have CC := Lib.hid (show ∀ j u, (flat first50)[j]? = some u → w3.cell? ⟨wr.heap.size, 0 + j, none⟩ = some u by
          subst hw3
          intro j u hj
          have := new_cells wr (flat first50) 39 j u hj
          rwa [Addr.add_lit] at this)
        have O3 := Lib.hid (own_below OZ.out b3)
        have M3 := Lib.hid (MZ.out.below b3)
        have B3 := Lib.hid (BZ.out.trans (b3.mono BZ.out.size))
        have hs3 : w.heap.size ≤ w3.heap.size := B3.out.size
        clear b3 hw3
        go_wp2_with fail
        go_loopw [11] (fun i wq => ∃ q : Nat, q ≤ 50 ∧ i = .int .i64 q ∧ Below w3.heap.size w3 wq) (fun i _ => 50 - (intOf i).toNat)
        case atStart => exact ⟨0, Nat.zero_le _, rfl, Below.refl _ _⟩
        case round =>
          obtain ⟨q, hq, rfl, hbq⟩ := hrel
          have BQ := Lib.hid hbq
          by_cases hq50 : q < 50
          · obtain ⟨y, hy⟩ : ∃ y, first50[q]? = some y := ⟨first50[q]'(by rw [first_len]; exact hq50), by simp⟩
            obtain ⟨c0, c1, c2, c3⟩ := bnCells CC.out q y hy
            have e0 := (hbq.cell (by exact hlt3)).trans c0
            have e1 := (hbq.cell (by exact hlt3)).trans c1
            have e2 := (hbq.cell (by exact hlt3)).trans c2
            have e3 := (hbq.cell (by exact hlt3)).trans c3
            have hqz : (q : Int) < 50 := by omega
            have hq0 : (0 : Int) ≤ (q : Int) := by omega
            have hsq := hbq.size
            obtain ⟨yk, yr, ym, yc⟩ := y
            simp only [Nat.zero_add] at e0 e1 e2 e3
            have bal := Below.alloc (Below.refl wr.heap.size wr) (Nat.le_refl _) (Obj.cells #[.int .i64 yk, .int .i32 yr, .int .i64 ym, .int .i64 yc] 39)
            have nw := new4 wr ⟨yk, yr, ym, yc⟩ 39
            have g0 := nw 0 _ rfl
            have g1 := nw 1 _ rfl
            have g2 := nw 2 _ rfl
            rw [Addr.add_lit] at g0 g1 g2
            simp only [Nat.zero_add] at g0 g1 g2
            have M4 := Lib.hid ((M3.out.below BQ.out).below bal)
            have O4 := Lib.hid (own_below (own_below O3.out BQ.out) bal)
            have B4 := Lib.hid (BQ.out.trans (bal.mono hsq))
            have hlt4 : wr.heap.size < (wr.alloc (Obj.cells #[.int .i64 yk, .int .i32 yr, .int .i64 ym, .int .i64 yc] 39)).heap.size := by simp
            clear c0 c1 c2 c3 hy hbq bal nw
            go_wp2_with fail
            clear e0 e1 e2 e3
            generalize (wr.alloc (Obj.cells #[.int .i64 yk, .int .i32 yr, .int .i64 ym, .int .i64 yc] 39)) = Wq at *
            obtain ⟨F, FF, FR⟩ := tail2 w mb lc n la bs ls ⟨yk, yr, ym⟩ Wq HN.out O4.out M4.out AL.out
            simp only at FF FR
            have KS := Lib.hid (fun (W' : World) (h : Below Wq.heap.size Wq W') => (show Below Wq.heap.size Wq W' ∧ W'.cell? ⟨wr.heap.size, 0, none⟩ = some (.int .i64 yk) ∧ W'.cell? ⟨wr.heap.size, 1, none⟩ = some (.int .i32 yr) ∧ W'.cell? ⟨wr.heap.size, 2, none⟩ = some (.int .i64 ym) from
              ⟨h, (h.cell (by exact hlt4)).trans g0, (h.cell (by exact hlt4)).trans g1, (h.cell (by exact hlt4)).trans g2⟩))
            clear g0 g1 g2
            go_region_held3 (fun W' => Below Wq.heap.size Wq W' ∧ W'.cell? ⟨wr.heap.size, 0, none⟩ = some (.int .i64 yk) ∧ W'.cell? ⟨wr.heap.size, 1, none⟩ = some (.int .i32 yr) ∧ W'.cell? ⟨wr.heap.size, 2, none⟩ = some (.int .i64 ym)) (first | exact KS.out _ (Below.refl _ _).drew | exact KS.out _ (by assumption) | assumption)
              (first
                | (go_at_call 6; (with_reducible refine (FF.out _ (And.left (by assumption))).mono ?_); rintro e w' ⟨rfl, hb⟩)
                | (go_at_call 7; (with_reducible refine (FR.out _ (And.left (by assumption))).mono ?_); rintro e w' ⟨rfl, hb⟩))
            have BB5 := Lib.hid (B4.out.trans ((And.left (a := Below Wq.heap.size Wq _) (by assumption)).mono B4.out.size))
            go_wp2
            go_roundw
            case rel => exact ⟨q + 1, by omega, by go_num, BB5.out⟩
            case measure => simp [intOf]; omega
          · have hqz : ¬ (q : Int) < 50 := by omega
            have hsq := hbq.size
            clear hbq
            go_wp2_with fail
            (with_reducible refine (K.out _).mono ?_)
            rintro e w5 ⟨rfl, b5⟩
            have B5 := Lib.hid (B3.out.trans ((BQ.out.trans (b5.mono hsq)).mono hs3))
            clear b5
            go_wp2
            go_ret
            exact ⟨rfl, B5.out⟩
end Go.Proofs.Ytonndckjidjkiaa
