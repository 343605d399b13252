/- The contract of the reference's Normal. Conditions: the selections lie in memory, not too many. -/
import Derived.Test.YtdpmkfjomkemhaaPost
import Derived.Deep.CutBlock
import Derived.Deep.CutRange
namespace Go.Proofs.Ytdpmkfjomkemhaa
open Go Go.RowKit

set_option maxRecDepth 100000 in
set_option maxHeartbeats 40000000 in
theorem refNormal (a : Option Addr) (n c : Nat) (m : Int) (ls : List Sl) (w : World) (hn : n ≤ 1000000) (hl : RowAt Sl.cells 24 w a n ls) :
    Calls Try.prog 8 #[.slice a n c, .int .i64 m] w (GotN w (ownOf (if m < 0 then 0 else m) ls)) := by
  have HL := Lib.hid hl
  clear hl
  obtain ⟨i2, hi2, hy0, hy1, hy2⟩ := info_cut Try.info24
  obtain ⟨i4, hi4, hx0, hx1, hx2⟩ := info_cut Try.info47
  obtain ⟨M, hM⟩ : ∃ M : Int, M = if m < 0 then 0 else m := ⟨_, rfl⟩
  have h0M : 0 ≤ M := by rw [hM]; split <;> omega
  have HM := Lib.hid hM
  rw [← hM]
  clear hM
  go_enter Try.func8, Try.ntmps8
  go_upto_if 19 with fail
  go_cut [1] from 18 to 19 (fun s1 wx => s1 = .int .i64 M ∧ w = wx)
  case first =>
    by_cases hm : m < 0
    · have e : M = 0 := by rw [HM.out, if_pos hm]
      go_wp2_with fail
      go_meet
      case rel => exact ⟨by rw [e], rfl⟩
    · have e : M = m := by rw [HM.out, if_neg hm]
      go_wp2_with fail
      go_meet
      case rel => exact ⟨by rw [e], rfl⟩
  case rest =>
    obtain ⟨rfl, rfl⟩ := hcut
    go_wp2_with fail
    go_loopw [5, 6, 7] (fun v5 v6 i wr => ∃ k : Nat, k ≤ n ∧ i = .int .i64 k ∧ wr.ownsRow w.heap.size 24 2 v5 k (flat Sl.cells ((ownOf M ls).take k)) ∧ wr.ownsRow w.heap.size 43 3 v6 k (flat Gp.cells (firsts (ownOf M ls) k)) ∧ (v5.ownBlock = none ∨ v5.ownBlock ≠ v6.ownBlock) ∧ Below w.heap.size w wr) (fun _ _ i _ => n - (intOf i).toNat)
    case atStart => exact ⟨0, Nat.zero_le _, rfl, World.ownsRow_nil _ _ _ _, World.ownsRow_nil _ _ _ _, .inl rfl, Below.refl _ _⟩
    case round =>
      obtain ⟨k, hk, rfl, ho5, ho6, hne, hbel⟩ := hrel
      by_cases hltk : k < n
      · obtain ⟨s, hs⟩ : ∃ s, ls[k]? = some s := ⟨ls[k]'(by have := HL.out.1; omega), by simp⟩
        rcases HL.out.2 with h0 | ⟨g, off, rfl, hh, hc⟩
        · omega
        have hg := hh
        obtain ⟨c0, c1⟩ := slCells (fun j u hu => (hbel.cell (by exact hg)).trans (hc j u hu)) k s hs
        have hltz : (k : Int) < (n : Int) := by omega
        have hk0 : (0 : Int) ≤ (k : Int) := by omega
        have O5 := Lib.hid ho5
        have O6 := Lib.hid ho6
        have NE := Lib.hid hne
        have BB := Lib.hid hbel
        have HS := Lib.hid hs
        have hgr : g < wr.heap.size := by have := hbel.size; omega
        have W1 := Lib.hid (fun W => refWithin s.a M W)
        have W2 := Lib.hid (fun W => refWithin s.h M W)
        have CL := Lib.hid (show clamp M s = ⟨win s.a M, win s.h M⟩ from rfl)
        obtain ⟨A, hA⟩ : ∃ A, A = win s.a M := ⟨_, rfl⟩
        obtain ⟨H, hH⟩ : ∃ H, H = win s.h M := ⟨_, rfl⟩
        rw [← hA] at W1 CL
        rw [← hH] at W2 CL
        clear ho5 ho6 hne hbel hs hc hA hH
        go_upto_region 8 with fail
        go_cut [8] from 20 to 59 (fun s8 wx => s8 = .pointer (some ⟨wr.heap.size, 0, none⟩) ∧ (wr.alloc (Obj.cells #[.int .i64 A, .int .i64 H] 24)).drew = wx)
        case first =>
          go_region_law (first
            | (go_simp; go_at_call 18; (with_reducible refine (W1.out _).mono ?_); rintro e w' ⟨rfl, rfl⟩)
            | (go_simp; go_at_call 18; (with_reducible refine (W2.out _).mono ?_); rintro e w' ⟨rfl, rfl⟩))
          all_goals (go_wp2_with fail; go_meet; exact ⟨rfl, rfl⟩)
        case rest =>
          obtain ⟨rfl, hw⟩ := hcut
          have X1 : wc.cell? ⟨wr.heap.size, 0, none⟩ = some (.int .i64 A) := by rw [← hw]; exact new_cell wr [.int .i64 A, .int .i64 H] 24 0 _ rfl
          have X2 : wc.cell? ⟨wr.heap.size, 1, none⟩ = some (.int .i64 H) := by rw [← hw]; exact new_cell wr [.int .i64 A, .int .i64 H] 24 1 _ rfl
          have BC := Lib.hid (show Below wr.heap.size wr wc by rw [← hw]; exact ((Below.refl _ _).alloc (Nat.le_refl _) _).drew)
          have P5 := Lib.hid (own_below O5.out BC.out)
          have P6 := Lib.hid (own_below O6.out BC.out)
          have hlw : wr.heap.size < wc.heap.size := by rw [← hw]; simp
          have hBw : w.heap.size ≤ wr.heap.size := BB.out.size
          clear hw
          go_wp2_with (at_builtin; refine wpList_append_own _ rfl _ _ 22 rfl w.heap.size 24 i2 (.agg #[.int .i64 0, .int .i64 0]) 2 16 Try.underlying22 hi2 hy0 hy1 hy2 rfl (by decide) _ _ _ rfl (P5.out.alloc _) ⟨wc.heap.size, 0, none⟩ 1 1 (Sl.cells ⟨A, H⟩) rfl rfl (new_cells _ _ _) (by intro u hu; simp [Sl.cells] at hu; rcases hu with rfl | rfl <;> rfl) (by unfold maxLen; omega) (by omega) (by simp; omega) ?_)
          intro v5 w5 own5 gr5 _
          have hne5 : ¬ some wr.heap.size = u5.ownBlock := fun e => by have := O5.out.lt _ e.symm; omega
          have Y1 : w5.cell? ⟨wr.heap.size, 0, none⟩ = some (.int .i64 A) := gr5.cell (Lib.cell?_alloc_some _ X1) hne5
          have Y2 : w5.cell? ⟨wr.heap.size, 1, none⟩ = some (.int .i64 H) := gr5.cell (Lib.cell?_alloc_some _ X2) hne5
          have Q5 := Lib.hid own5
          have Q6 := Lib.hid ((P6.out.alloc _).kept gr5 ((own_ne P6.out P5.out (by decide)).imp id id))
          have B5 := Lib.hid (show Below w.heap.size w w5 from ((BB.out.trans (BC.out.mono hBw)).alloc (by omega) _).grown gr5 (by simp; omega) (fun j hj => (P5.out.lt j hj).1))
          have hl5 : wr.heap.size < w5.heap.size := by have := gr5.size; simp at this; omega
          have LO := Lib.hid (fun W => low ⟨A, H⟩ W)
          have HI := Lib.hid (fun W => high ⟨A, H⟩ W)
          clear own5 gr5 X1 X2 hne5 hlw
          go_upto_if 50 with fail
          go_cut [9] from 20 to 59 (fun s9 wx => s9 = .int .i64 (if A = H then (-1 : Int) else (k : Int)) ∧ w5 = wx)
          case first =>
            by_cases hAH : A = H
            · have b1 : (A == H) = true := by simp [hAH]
              go_wp2_with fail
              go_meet
              case rel => exact ⟨by rw [if_pos hAH], rfl⟩
            · have b1 : (A == H) = false := by simp [hAH]
              go_wp2_with fail
              go_meet
              case rel => exact ⟨by rw [if_neg hAH], rfl⟩
          case rest =>
            obtain ⟨rfl, rfl⟩ := hcut
            obtain ⟨wh, hwh⟩ : ∃ wh : Int, wh = (if A = H then (-1 : Int) else (k : Int)) := ⟨_, rfl⟩
            rw [← hwh]
            have WH := Lib.hid hwh
            clear hwh
            have NC := Lib.hid (show ∀ j u, (Gp.cells ⟨(Sl.mk A H).lo, (Sl.mk A H).hi, wh⟩)[j]? = some u → ((((w5.alloc (Obj.cells #[.int .i64 A, .int .i64 H] 24)).alloc (Obj.cells #[.int .i64 A, .int .i64 H] 24)).alloc (Obj.cells #[.int .i64 (Sl.mk A H).lo, .int .i64 (Sl.mk A H).hi, .int .i64 wh] 43)).drew).cell? ((⟨w5.heap.size + 1 + 1, 0, none⟩ : Addr).add j) = some u from fun j u h => by
              have h2 := new_cells ((w5.alloc (Obj.cells #[.int .i64 A, .int .i64 H] 24)).alloc (Obj.cells #[.int .i64 A, .int .i64 H] 24)) (Gp.cells ⟨(Sl.mk A H).lo, (Sl.mk A H).hi, wh⟩) 43 j u h
              rw [show ((w5.alloc (Obj.cells #[.int .i64 A, .int .i64 H] 24)).alloc (Obj.cells #[.int .i64 A, .int .i64 H] 24)).heap.size = w5.heap.size + 1 + 1 by simp] at h2
              exact h2)
            have NO := Lib.hid (show ∀ u ∈ Gp.cells ⟨(Sl.mk A H).lo, (Sl.mk A H).hi, wh⟩, u.oneCell' = true from fun u hu => gp_one [⟨(Sl.mk A H).lo, (Sl.mk A H).hi, wh⟩] u (by rw [flat_one]; exact hu))
            have ES := Lib.hid (show (ownOf M ls).take (k + 1) = (ownOf M ls).take k ++ [⟨A, H⟩] by rw [List.take_add_one, ownOf_get HS.out, CL.out]; rfl)
            have EG := Lib.hid (show firsts (ownOf M ls) (k + 1) = firsts (ownOf M ls) k ++ [⟨(Sl.mk A H).lo, (Sl.mk A H).hi, wh⟩] by rw [firsts_snoc (ownOf_get HS.out), CL.out, WH.out])
            have RS := Lib.hid (show w5.ownsRow w.heap.size 24 2 v5 (k + 1) (flat Sl.cells ((ownOf M ls).take (k + 1))) by rw [ES.out, flat_append, flat_one]; exact Q5.out)
            have hB5 : w.heap.size ≤ w5.heap.size := B5.out.size
            go_upto_region 13 with fail
            go_region_law (first
                | (go_simp; go_at_call 12; (with_reducible refine (LO.out _).mono ?_); rintro e w' ⟨rfl, rfl⟩)
                | (go_simp; go_at_call 13; (with_reducible refine (HI.out _).mono ?_); rintro e w' ⟨rfl, rfl⟩)
                | (refine step_append_own rfl (.tmp 51) (.tmp 58) 40 rfl w.heap.size 43 i4 _ 3 24 Try.underlying40 hi4 hx0 hx1 hx2 rfl (by decide) u6 k (flat Gp.cells (firsts (ownOf M ls) k)) (by simp [Act.eval]) (((Q6.out.alloc _).alloc _).alloc _).drew ⟨w5.heap.size + 1 + 1, 0, none⟩ 1 1 (Gp.cells ⟨(Sl.mk A H).lo, (Sl.mk A H).hi, wh⟩) (by simp [Act.eval]) rfl NC.out NO.out (by unfold maxLen; omega) (by omega) (by simp; omega) ?_; intro v8 w8 own8 gr8; have R8 := Lib.hid own8; have S8 := Lib.hid ((((RS.out.alloc _).alloc _).alloc _).drew.kept gr8 (own_ne RS.out Q6.out (by decide))); have B8 := Lib.hid (((((B5.out.alloc (by omega) _).alloc (by simp; omega) _).alloc (by simp; omega) _).drew).grown gr8 (by simp; omega) (fun j hj => (Q6.out.lt j hj).1)); clear own8 gr8))
            all_goals
              go_wp2_with fail
              go_roundw
              case rel => exact ⟨k + 1, by omega, by go_num, S8.out, by rw [EG.out, flat_append, flat_one]; exact R8.out, own_ne S8.out R8.out (by decide), B8.out⟩
              case measure => (simp [RowKit.intOf]; try omega)
      · obtain rfl : k = n := by omega
        have EO := Lib.hid (show (ownOf M ls).take k = ownOf M ls from List.take_of_length_le (by simp [ownOf, HL.out.1]))
        have hlo : (ownOf M ls).length = k := by simp [ownOf, HL.out.1]
        have G0 := Lib.hid (show Groups (ownOf M ls) (firsts (ownOf M ls) k) by have := Groups.first (ownOf M ls); rwa [hlo] at this)
        have F0 := Lib.hid (show (firsts (ownOf M ls) k).length = k from firsts_len (by omega))
        rw [EO.out] at ho5
        obtain ⟨own, hown⟩ : ∃ own, own = ownOf M ls := ⟨_, rfl⟩
        rw [← hown] at ho5 ho6 G0 F0 hlo
        rw [← hown]
        obtain ⟨a5, c5, rfl, hc5, hn5, hr5⟩ := own_row sl_len (by decide) ho5
        have O5 := Lib.hid ho5
        have O6 := Lib.hid ho6
        have BB := Lib.hid hbel
        have HO := Lib.hid hown
        have hkn : ¬ (k : Int) < (k : Int) := by omega
        clear ho5 ho6 hne hbel hown hr5
        go_wp2_with fail
        go_loopw [6] (fun v6 wx => ∃ gs : List Gp, Groups own gs ∧ gs.length ≤ k ∧ wx.ownsRow w.heap.size 43 3 v6 gs.length (flat Gp.cells gs) ∧ wx.ownsRow w.heap.size 24 2 (.slice a5 k c5) k (flat Sl.cells own) ∧ Below w.heap.size w wx) (fun v6 _ => lenV v6)
        case atStart => exact ⟨_, G0.out, Nat.le_of_eq F0.out, by rw [F0.out]; exact O6.out, O5.out, BB.out⟩
        case round =>
          obtain ⟨gs0, hG0, hk0, hr6, hr5, hbel⟩ := hrel
          have hl6 : lenV u6 = gs0.length := by
            rcases hr6.2 with ⟨rfl, h0⟩ | ⟨g6, c6, _, rfl, _⟩
            · exact h0.symm
            · rfl
          obtain ⟨N, hN⟩ : ∃ N, N = gs0.length := ⟨_, rfl⟩
          rw [← hN] at hk0 hr6 hl6
          have GG := Lib.hid hG0
          have R6 := Lib.hid hr6
          have R5 := Lib.hid hr5
          have B1 := Lib.hid hbel
          have NN := Lib.hid hN
          clear hG0 hr6 hr5 hbel hN
          go_wp2_with fail
          go_loopw [6, 10, 11] (fun v6 met i wx => ∃ (gs : List Gp) (p : Nat), i = .int .i64 p ∧ p ≤ k + 1 ∧ Groups own gs ∧ gs.length ≤ N ∧ wx.ownsRow w.heap.size 43 3 v6 gs.length (flat Gp.cells gs) ∧ wx.ownsRow w.heap.size 24 2 (.slice a5 k c5) k (flat Sl.cells own) ∧ Below w.heap.size w wx ∧
            ((met = .bool false ∧ gs.length = N ∧ p ≤ N ∧ Sofar gs p) ∨ (met = .bool true ∧ gs.length < N))) (fun _ met i _ => match met with | .bool true => 0 | _ => N + 1 - (intOf i).toNat)
          case atStart => exact ⟨gs0, 0, rfl, by omega, GG.out, Nat.le_of_eq NN.out.symm, by rw [← NN.out]; exact R6.out, R5.out, B1.out, .inl ⟨rfl, NN.out.symm, Nat.zero_le _, sofar_zero _⟩⟩
          case round =>
            obtain ⟨gs, p, rfl, hpk, hG, hgl, hr6, hr5, hbel, hst⟩ := hrel
            rename World => wr'
            have G3 := Lib.hid hG
            have R53 := Lib.hid hr5
            have B3 := Lib.hid hbel
            rcases hst with ⟨rfl, hgN, hpN, hso⟩ | ⟨rfl, hlt⟩
            · have S3 := Lib.hid hso
              rw [hgN] at hr6
              obtain ⟨a6, c6, rfl, hc6, hn6, hr6'⟩ := own_row gp_len (by decide) hr6
              have R63 := Lib.hid hr6
              have GN := Lib.hid hgN
              clear hG hr5 hbel hso hr6 hr6' hgN
              by_cases hpl : p < N
              · as_aux_lemma =>
                  have hpz : (p : Int) < (N : Int) := by omega
                  go_wp2_with fail
                  go_loopw [6, 10, 12] (fun v6 met i wx => ∃ (gs : List Gp) (q : Nat), i = .int .i64 q ∧ q ≤ k + 1 ∧ Groups own gs ∧ gs.length ≤ N ∧ wx.ownsRow w.heap.size 43 3 v6 gs.length (flat Gp.cells gs) ∧ wx.ownsRow w.heap.size 24 2 (.slice a5 k c5) k (flat Sl.cells own) ∧ Below w.heap.size w wx ∧
                    ((met = .bool false ∧ gs.length = N ∧ p < q ∧ q ≤ N ∧ Sofar gs p ∧ Rowfar gs p q) ∨ (met = .bool true ∧ gs.length < N))) (fun _ met i _ => match met with | .bool true => 0 | _ => N + 1 - (intOf i).toNat)
                  case atStart => exact ⟨gs, p + 1, by go_num, by omega, G3.out, Nat.le_of_eq GN.out, by rw [GN.out]; exact R63.out, R53.out, B3.out, .inl ⟨rfl, GN.out, by omega, by omega, S3.out, rowfar_start _ _⟩⟩
                  case round =>
                    obtain ⟨gs2, q, rfl, hqk, hG, hgl, hr6, hr5, hbel, hst⟩ := hrel
                    rcases hst with ⟨rfl, hgN, hpq, hqN, hso, hro⟩ | ⟨rfl, hlt⟩
                    · rw [hgN] at hr6
                      by_cases hql : q < N
                      · obtain ⟨x, hx⟩ : ∃ x, gs2[p]? = some x := ⟨gs2[p]'(by omega), by simp⟩
                        obtain ⟨y, hy⟩ : ∃ y, gs2[q]? = some y := ⟨gs2[q]'(by omega), by simp⟩
                        obtain ⟨g6, d6, rfl, hBg, hgw, hNc⟩ := own_block hr6 (by omega)
                        obtain ⟨x0, x1, x2⟩ := own_cells hr6 p x hx
                        obtain ⟨y0, y1, y2⟩ := own_cells hr6 q y hy
                        have hqz : (q : Int) < (N : Int) := by omega
                        have hq0 : (0 : Int) ≤ (q : Int) := by omega
                        have hp0 : (0 : Int) ≤ (p : Int) := by omega
                        have X := Lib.hid hx
                        have Y := Lib.hid hy
                        have GN5 := Lib.hid hgN
                        have G5 := Lib.hid hG
                        have R65 := Lib.hid hr6
                        have R55 := Lib.hid hr5
                        have B5 := Lib.hid hbel
                        have SO := Lib.hid hso
                        have RO := Lib.hid hro
                        clear hx hy hgN hG hr6 hr5 hbel hso hro
                        by_cases t1 : y.hi < x.lo
                        · have d1 : decide (y.hi < x.lo) = true := decide_eq_true t1
                          go_wp2_with fail
                          go_quiet (fail)
                          go_wp2
                          go_roundw
                          case rel => exact ⟨gs2, q + 1, by go_num, by omega, G5.out, Nat.le_of_eq GN5.out, by rw [GN5.out]; exact own_below R65.out ⟨rfl, rfl, rfl, Nat.le_refl _, fun _ _ => rfl⟩, own_below R55.out ⟨rfl, rfl, rfl, Nat.le_refl _, fun _ _ => rfl⟩, B5.out.trans ⟨rfl, rfl, rfl, Nat.le_refl _, fun _ _ => rfl⟩, .inl ⟨rfl, GN5.out, by omega, by omega, SO.out, rowfar_next RO.out X.out Y.out (.inr t1)⟩⟩
                          case measure => (simp [RowKit.intOf]; try omega)
                        · have d1 : decide (y.hi < x.lo) = false := decide_eq_false t1
                          by_cases t2 : x.hi < y.lo
                          · have d2 : decide (x.hi < y.lo) = true := decide_eq_true t2
                            go_wp2_with fail
                            go_quiet (fail)
                            go_wp2
                            go_roundw
                            case rel => exact ⟨gs2, q + 1, by go_num, by omega, G5.out, Nat.le_of_eq GN5.out, by rw [GN5.out]; exact own_below R65.out ⟨rfl, rfl, rfl, Nat.le_refl _, fun _ _ => rfl⟩, own_below R55.out ⟨rfl, rfl, rfl, Nat.le_refl _, fun _ _ => rfl⟩, B5.out.trans ⟨rfl, rfl, rfl, Nat.le_refl _, fun _ _ => rfl⟩, .inl ⟨rfl, GN5.out, by omega, by omega, SO.out, rowfar_next RO.out X.out Y.out (.inl t2)⟩⟩
                            case measure => (simp [RowKit.intOf]; try omega)
                          · have d2 : decide (x.hi < y.lo) = false := decide_eq_false t2
                            go_wp2_with fail
                            go_quiet (fail)
                            have R66 := Lib.hid (own_below R65.out (drewN_below wr nq))
                            have R56 := Lib.hid (own_below R55.out (drewN_below wr nq))
                            have B6 := Lib.hid (B5.out.trans ((drewN_below wr nq).mono B5.out.size))
                            have hgw1 : g6 < (wr.drewN nq).heap.size := hgw
                            clear R65 R55 B5 SO RO x0 x1 x2 y0 y1 y2 hgw d1 d2
                            generalize (wr.drewN nq) = W1 at *
                            clear nq
                            obtain ⟨x0, x1, x2⟩ := own_cells R66.out p x X.out
                            obtain ⟨y0, y1, y2⟩ := own_cells R66.out q y Y.out
                            go_upto_region 23 with fail
                            go_quiet (fail)
                            have R67 := Lib.hid (own_below R66.out (drewN_below W1 nq))
                            have R57 := Lib.hid (own_below R56.out (drewN_below W1 nq))
                            have B7 := Lib.hid (B6.out.trans ((drewN_below W1 nq).mono B6.out.size))
                            have hgw2 : g6 < (W1.drewN nq).heap.size := hgw1
                            clear R66 R56 B6 x0 x1 x2 y0 y1 y2 hgw1
                            generalize (W1.drewN nq) = W2 at *
                            clear nq
                            obtain ⟨x0, x1, x2⟩ := own_cells R67.out p x X.out
                            obtain ⟨y0, y1, y2⟩ := own_cells R67.out q y Y.out
                            have f0 := own_frozen R67.out (p * 3)
                            go_upto_if 116 with fail
                            go_cut [] from 72 to 176 (fun wx => wx.ownsRow w.heap.size 43 3 (.slice (some ⟨g6, 0, none⟩) N d6) N (flat Gp.cells (gs2.set p ⟨if y.lo < x.lo then y.lo else x.lo, x.hi, x.who⟩)) ∧ wx.ownsRow w.heap.size 24 2 (.slice a5 k c5) k (flat Sl.cells own) ∧ Below w.heap.size w wx ∧ g6 < wx.heap.size)
                            case first =>
                              by_cases e : y.lo < x.lo
                              · have d3 : decide (y.lo < x.lo) = true := decide_eq_true e
                                have E := Lib.hid e
                                go_wp2_with fail
                                go_meet
                                case rel =>
                                  refine ⟨by rw [if_pos E.out]; exact gp_set R67.out p 0 x ⟨y.lo, x.hi, x.who⟩ _ X.out (by omega) rfl, ownsRow_setCell_other R57.out (own_apart R57.out R67.out) _, B7.out.setCell hBg _, by simpa using hgw2⟩
                              · have d3 : decide (y.lo < x.lo) = false := decide_eq_false e
                                have E := Lib.hid e
                                go_wp2_with fail
                                go_meet
                                case rel => exact ⟨by rw [if_neg (by have := E.out; omega), set_same X.out]; exact R67.out, R57.out, B7.out, hgw2⟩
                            case rest =>
                              obtain ⟨R3, Q3, B3', hgw3⟩ := hcut
                              obtain ⟨L, hL⟩ : ∃ L, L = if y.lo < x.lo then y.lo else x.lo := ⟨_, rfl⟩
                              rw [← hL] at R3
                              have HL2 := Lib.hid hL
                              have hpq' : p ≠ q := by omega
                              have X3 := Lib.hid (show (gs2.set p ⟨L, x.hi, x.who⟩)[p]? = some ⟨L, x.hi, x.who⟩ by rw [List.getElem?_set_self (List.getElem?_eq_some_iff.1 X.out).1])
                              have Y3 := Lib.hid (show (gs2.set p ⟨L, x.hi, x.who⟩)[q]? = some y by rw [List.getElem?_set_ne hpq']; exact Y.out)
                              have R71 := Lib.hid R3
                              have R51 := Lib.hid Q3
                              have B71 := Lib.hid B3'
                              clear R67 R57 B7 x0 x1 x2 y0 y1 y2 f0 R3 Q3 B3' hL hgw2
                              rename World => W3
                              obtain ⟨x0, x1, x2⟩ := own_cells R71.out p _ X3.out
                              obtain ⟨y0, y1, y2⟩ := own_cells R71.out q y Y3.out
                              simp only at x0 x1 x2
                              go_upto_region 25 with fail
                              go_quiet (fail)
                              have R72 := Lib.hid (own_below R71.out (drewN_below W3 nq))
                              have R52 := Lib.hid (own_below R51.out (drewN_below W3 nq))
                              have B72 := Lib.hid (B71.out.trans ((drewN_below W3 nq).mono B71.out.size))
                              have hgw4 : g6 < (W3.drewN nq).heap.size := hgw3
                              clear R71 R51 B71 x0 x1 x2 y0 y1 y2 hgw3
                              generalize (W3.drewN nq) = W4 at *
                              clear nq
                              obtain ⟨x0, x1, x2⟩ := own_cells R72.out p _ X3.out
                              obtain ⟨y0, y1, y2⟩ := own_cells R72.out q y Y3.out
                              simp only at x0 x1 x2
                              have f1 := own_frozen R72.out (p * 3 + 1)
                              go_upto_if 136 with fail
                              go_cut [] from 72 to 176 (fun wx => wx.ownsRow w.heap.size 43 3 (.slice (some ⟨g6, 0, none⟩) N d6) N (flat Gp.cells (gs2.set p ⟨L, if x.hi < y.hi then y.hi else x.hi, x.who⟩)) ∧ wx.ownsRow w.heap.size 24 2 (.slice a5 k c5) k (flat Sl.cells own) ∧ Below w.heap.size w wx ∧ g6 < wx.heap.size)
                              case first =>
                                by_cases e : x.hi < y.hi
                                · have d4 : decide (x.hi < y.hi) = true := decide_eq_true e
                                  have E := Lib.hid e
                                  go_wp2_with fail
                                  go_meet
                                  case rel =>
                                    refine ⟨by rw [if_pos E.out]; have h := gp_set R72.out p 1 _ ⟨L, y.hi, x.who⟩ _ X3.out (by omega) rfl; rw [List.set_set] at h; exact h, ownsRow_setCell_other R52.out (own_apart R52.out R72.out) _, B72.out.setCell hBg _, by simpa using hgw4⟩
                                · have d4 : decide (x.hi < y.hi) = false := decide_eq_false e
                                  have E := Lib.hid e
                                  go_wp2_with fail
                                  go_meet
                                  case rel => exact ⟨by rw [if_neg (by have := E.out; omega)]; exact R72.out, R52.out, B72.out, hgw4⟩
                              case rest =>
                                obtain ⟨R3, Q3, B3', hgw5⟩ := hcut
                                obtain ⟨H, hH⟩ : ∃ H, H = if x.hi < y.hi then y.hi else x.hi := ⟨_, rfl⟩
                                rw [← hH] at R3
                                have HH2 := Lib.hid hH
                                have X4 := Lib.hid (show (gs2.set p ⟨L, H, x.who⟩)[p]? = some ⟨L, H, x.who⟩ by rw [List.getElem?_set_self (List.getElem?_eq_some_iff.1 X.out).1])
                                have Y4 := Lib.hid (show (gs2.set p ⟨L, H, x.who⟩)[q]? = some y by rw [List.getElem?_set_ne hpq']; exact Y.out)
                                have R73 := Lib.hid R3
                                have R53' := Lib.hid Q3
                                have B73 := Lib.hid B3'
                                clear R72 R52 B72 x0 x1 x2 y0 y1 y2 f1 R3 Q3 B3' hH hgw4 X3 Y3
                                rename World => W5
                                obtain ⟨x0, x1, x2⟩ := own_cells R73.out p _ X4.out
                                obtain ⟨y0, y1, y2⟩ := own_cells R73.out q y Y4.out
                                simp only at x0 x1 x2
                                have hB5' : w.heap.size ≤ W5.heap.size := B73.out.size
                                obtain ⟨_, _, hv5, _, _, hr55⟩ := own_row sl_len (by decide) R53'.out
                                cases hv5
                                obtain ⟨bA, hbA⟩ := ahead_bool own y.who x.who
                                have BA := Lib.hid hbA
                                have AH := Lib.hid (fun W (h : Below W5.heap.size W5 W) => aheadB W5 a5 k c5 own y.who x.who W hr55 (G5.out.whose y (List.mem_of_getElem? Y.out)).place (G5.out.whose x (List.mem_of_getElem? X.out)).place bA hbA h)
                                have KS := Lib.hid (fun (W : World) (h : Below W5.heap.size W5 W) => (show Below W5.heap.size W5 W ∧ W.cell? ⟨g6, q * 3 + 2, none⟩ = some (.int .i64 y.who) ∧ W.cell? ⟨g6, p * 3 + 2, none⟩ = some (.int .i64 x.who) from
                                  ⟨h, (h.cell (by exact hgw5)).trans y2, (h.cell (by exact hgw5)).trans x2⟩))
                                clear hbA hr55
                                go_upto_region 27 with fail
                                go_region_held3 (fun W => Below W5.heap.size W5 W ∧ W.cell? ⟨g6, q * 3 + 2, none⟩ = some (.int .i64 y.who) ∧ W.cell? ⟨g6, p * 3 + 2, none⟩ = some (.int .i64 x.who)) (first | exact KS.out _ (Below.refl _ _).drew | exact KS.out _ (by assumption) | assumption)
                                  (first
                                    | (go_at_call 19; (with_reducible refine (AH.out _ (And.left (by assumption))).mono ?_); rintro e w' ⟨rfl, hb⟩))
                                have hbW : Below W5.heap.size W5 w' := And.left (by assumption)
                                have R74 := Lib.hid (own_below R73.out hbW)
                                have R54 := Lib.hid (own_below R53'.out hbW)
                                have B74 := Lib.hid (B73.out.trans (hbW.mono hB5'))
                                have hgw6 : g6 < w'.heap.size := by have := hbW.size; omega
                                clear hbW R73 R53' B73 x0 x1 x2 y0 y1 y2 hgw5
                                obtain ⟨x0, x1, x2⟩ := own_cells R74.out p _ X4.out
                                obtain ⟨y0, y1, y2⟩ := own_cells R74.out q y Y4.out
                                simp only at x0 x1 x2
                                have f2 := own_frozen R74.out (p * 3 + 2)
                                go_upto_if 157 with fail
                                go_cut [] from 72 to 176 (fun wx => wx.ownsRow w.heap.size 43 3 (.slice (some ⟨g6, 0, none⟩) N d6) N (flat Gp.cells (gs2.set p ⟨L, H, chose bA y.who x.who⟩)) ∧ wx.ownsRow w.heap.size 24 2 (.slice a5 k c5) k (flat Sl.cells own) ∧ Below w.heap.size w wx ∧ g6 < wx.heap.size)
                                case first =>
                                  cases bA with
                                  | true =>
                                    go_wp2_with fail
                                    go_meet
                                    case rel =>
                                      refine ⟨by have h := gp_set R74.out p 2 _ ⟨L, H, y.who⟩ _ X4.out (by omega) rfl; rw [List.set_set] at h; exact h, ownsRow_setCell_other R54.out (own_apart R54.out R74.out) _, B74.out.setCell hBg _, by simpa using hgw6⟩
                                  | false =>
                                    go_wp2_with fail
                                    go_meet
                                    case rel => exact ⟨R74.out, R54.out, B74.out, hgw6⟩
                                case rest =>
                                  obtain ⟨R3, Q3, B3', hgw7⟩ := hcut
                                  obtain ⟨V, hV⟩ : ∃ V, V = chose bA y.who x.who := ⟨_, rfl⟩
                                  rw [← hV] at R3
                                  have G6 := Lib.hid (show Groups own ((gs2.set p ⟨L, H, V⟩).take q ++ (gs2.set p ⟨L, H, V⟩).drop (q + 1)) by
                                    have hw : V = y.who ∧ Ahead own y.who x.who ∨ V = x.who ∧ ¬ Ahead own y.who x.who := by rw [hV]; exact chose_who BA.out
                                    have h := G5.out.merge_at X.out Y.out hpq (by omega) (by omega) hw
                                    unfold both at h
                                    rw [← HL2.out, ← HH2.out] at h
                                    exact h)
                                  obtain ⟨gs3, hgs3⟩ : ∃ gs3, gs3 = gs2.set p ⟨L, H, V⟩ := ⟨_, rfl⟩
                                  rw [← hgs3] at R3 G6
                                  have hl3 : gs3.length = N := by rw [hgs3, List.length_set]; exact GN5.out
                                  have HL3 := Lib.hid hl3
                                  have R75 := Lib.hid R3
                                  have R55' := Lib.hid Q3
                                  have B75 := Lib.hid B3'
                                  clear R74 R54 B74 x0 x1 x2 y0 y1 y2 f2 R3 Q3 B3' hV hgw6 X4 Y4 hgs3 hl3 AH KS BA
                                  rename World => W7
                                  obtain ⟨_, _, hv6, _, _, hr7⟩ := own_row gp_len (by decide) R75.out
                                  cases hv6
                                  have RW := Lib.hid hr7
                                  have hwr : IntKind.i64.wrap ((q : Int) + 1) = (q : Int) + 1 := IntWalk.i64_in _ (by omega)
                                  have hq1 : (0 : Int) ≤ (q : Int) + 1 := by omega
                                  have hq2 : (q : Int) + 1 ≤ (N : Int) := by omega
                                  have hs1 := slice_to (some ⟨g6, 0, none⟩) N d6 q (by omega)
                                  obtain ⟨a2, hs2, hn2, tr2⟩ := row_from (some ⟨g6, 0, none⟩) N d6 q hql hNc (fun h => by cases h)
                                  have TR := Lib.hid tr2
                                  have N1 := Lib.hid (show (some (⟨g6, 0, none⟩ : Addr)) = none → q = 0 ∧ d6 = 0 from fun h => by cases h)
                                  have N2 := Lib.hid hn2
                                  have LX := Lib.hid (show (flat Gp.cells (gs3.take q)).length = q * 3 by rw [flat_len gp_len, List.length_take, HL3.out]; omega)
                                  have LZ := Lib.hid (show (flat Gp.cells (gs3.drop (q + 1))).length = (N - (q + 1)) * 3 by rw [flat_len gp_len, List.length_drop, HL3.out])
                                  have hB7 : w.heap.size ≤ W7.heap.size := B75.out.size
                                  have LIT := Lib.hid (show ((W7.alloc (Obj.cells #[] 43)).drew).ownsRow W7.heap.size 43 3 (.slice (some ⟨W7.heap.size, 0, none⟩) 0 0) 0 [] from World.ownsRow_lit W7 #[] 0 (Nat.le_refl _) (by unfold maxLen; omega) rfl)
                                  clear hn2 tr2 hr7
                                  go_upto_region 29 with fail
                                  go_region_law (first
                                    | (refine step_append_in rfl (.tmp 167) (.tmp 170) 40 rfl W7.heap.size 43 i4 _ 3 24 Try.underlying40 hi4 hx0 hx1 hx2 rfl (by decide) (.slice (some ⟨W7.heap.size, 0, none⟩) 0 0) 0 [] (by simp [Act.eval]) LIT.out (some ⟨g6, 0, none⟩) q d6 (flat Gp.cells (gs3.take q)) (by simp [Act.eval]) N1.out LX.out (row_holds (row_take gp_len (RW.out.below (((Below.refl _ _).alloc (Nat.le_refl _) _).drew)) q (by omega))) (gp_one _) (by unfold maxLen; omega) (by omega) (by simp) ?_; intro v2 w3 own2 gr2; have O2 := Lib.hid own2; have B8 := Lib.hid (show Below W7.heap.size W7 w3 from ((((Below.refl _ _).alloc (Nat.le_refl _) _).drew).grown gr2 (by simp) (fun k hk => by simp [Value.ownBlock] at hk; omega))); clear own2 gr2)
                                    | (refine step_append_in rfl (.tmp 171) (.tmp 175) 40 rfl W7.heap.size 43 i4 _ 3 24 Try.underlying40 hi4 hx0 hx1 hx2 rfl (by decide) v2 _ _ (by simp [Act.eval]) O2.out a2 (N - (q + 1)) (d6 - (q + 1)) (flat Gp.cells (gs3.drop (q + 1))) (by simp [Act.eval]) N2.out LZ.out (row_holds (TR.out _ _ _ (RW.out.below B8.out))) (gp_one _) (by unfold maxLen; omega) (by omega) B8.out.size ?_; intro v3 w4 own3 gr3; have O3 := Lib.hid own3; have B9 := Lib.hid (show Below W7.heap.size W7 w4 from B8.out.grown gr3 B8.out.size (fun k hk => (O2.out.lt k hk).1)); clear own3 gr3))
                                  all_goals
                                    have own := O3.out
                                    rw [List.nil_append, ← flat_append] at own
                                    have hlen : (gs3.take q ++ gs3.drop (q + 1)).length = N - 1 := by rw [cut_len (by rw [HL3.out]; exact hql), HL3.out]
                                    rw [show 0 + q + (N - (q + 1)) = (gs3.take q ++ gs3.drop (q + 1)).length by rw [hlen]; omega] at own
                                    have OW := Lib.hid (own_mono own hB7)
                                    have HLN := Lib.hid hlen
                                    have R58 := Lib.hid (own_below R55'.out B9.out)
                                    have B10 := Lib.hid (B75.out.trans (B9.out.mono hB7))
                                    clear own hlen
                                    go_wp2_with fail
                                    go_roundw
                                    case rel => exact ⟨_, q + 1, by go_num, by omega, G6.out, by have := HLN.out; omega, OW.out, R58.out, B10.out, .inr ⟨rfl, by have := HLN.out; omega⟩⟩
                                    case measure => (simp [RowKit.intOf]; try omega)
                      · obtain rfl : q = N := by omega
                        have S5 := Lib.hid (show Sofar gs2 (p + 1) from sofar_next hso (by rw [hgN]; exact hro))
                        have GN5 := Lib.hid hgN
                        have G5 := Lib.hid hG
                        have R65 := Lib.hid hr6
                        have R55 := Lib.hid hr5
                        have B5 := Lib.hid hbel
                        obtain ⟨a7, c7, rfl, _, _, _⟩ := own_row gp_len (by decide) hr6
                        have hqz : ¬ (q : Int) < (q : Int) := by omega
                        clear hr6 hr5 hbel hso hro hG hgN
                        go_wp2_with fail
                        go_roundw
                        case rel => exact ⟨gs2, p + 1, by go_num, by omega, G5.out, Nat.le_of_eq GN5.out, by rw [GN5.out]; exact R65.out, R55.out, B5.out, .inl ⟨rfl, GN5.out, by omega, S5.out⟩⟩
                        case measure => (simp [RowKit.intOf]; try omega)
                    · have G5 := Lib.hid hG
                      have R65 := Lib.hid hr6
                      have R55 := Lib.hid hr5
                      have B5 := Lib.hid hbel
                      have LT := Lib.hid hlt
                      obtain ⟨a7, c7, rfl, _, _, _⟩ := own_row gp_len (by decide) hr6
                      clear hr6 hr5 hbel hG hlt
                      by_cases hqz : (q : Int) < (gs2.length : Int)
                      · go_wp2_with fail
                        go_roundw
                        case rel => exact ⟨gs2, p + 1, by go_num, by omega, G5.out, by have := LT.out; omega, R65.out, R55.out, B5.out, .inr ⟨rfl, LT.out⟩⟩
                        case measure => (simp [RowKit.intOf]; try omega)
                      · go_wp2_with fail
                        go_roundw
                        case rel => exact ⟨gs2, p + 1, by go_num, by omega, G5.out, by have := LT.out; omega, R65.out, R55.out, B5.out, .inr ⟨rfl, LT.out⟩⟩
                        case measure => (simp [RowKit.intOf]; try omega)
              · obtain rfl : p = N := by omega
                have AP := Lib.hid (show Apart gs from sofar_apart (by rw [GN.out]; exact S3.out))
                have hpz : ¬ (p : Int) < (p : Int) := by omega
                have HF := Lib.hid (Half.start G3.out AP.out)
                have hBw : w.heap.size ≤ wr'.heap.size := B3.out.size
                go_wp2_with fail
                go_loopw [6, 13] (fun v6 v13 wx => ∃ (gs : List Gp) (out : List Sl), Half own out gs ∧ out.length + gs.length ≤ k ∧ wx.ownsRow w.heap.size 43 3 v6 gs.length (flat Gp.cells gs) ∧ wx.ownsRow wr'.heap.size 24 2 v13 out.length (flat Sl.cells out) ∧ Below wr'.heap.size wr' wx) (fun v6 _ _ => lenV v6)
                case atStart => exact ⟨gs, [], HF.out, by have := GN.out; simp; omega, by rw [GN.out]; exact R63.out, World.ownsRow_nil _ _ _ _, Below.refl _ _⟩
                case round =>
                  obtain ⟨gs4, out4, hHalf, hsz, hr6, hr13, hbel⟩ := hrel
                  rename World => W0
                  have hl6' : lenV u6 = gs4.length := by
                    rcases hr6.2 with ⟨rfl, h0⟩ | ⟨g6, c6, _, rfl, _⟩
                    · exact h0.symm
                    · rfl
                  obtain ⟨n4, hn4⟩ : ∃ n4, n4 = gs4.length := ⟨_, rfl⟩
                  rw [← hn4] at hsz hr6 hl6'
                  have HA := Lib.hid hHalf
                  have R6 := Lib.hid hr6
                  have R13 := Lib.hid hr13
                  have B4 := Lib.hid hbel
                  have N4 := Lib.hid hn4
                  obtain ⟨a6', c6', rfl, hc6', hn6', hr6''⟩ := own_row gp_len (by decide) hr6
                  clear hHalf hr6 hr13 hbel hn4 hr6''
                  by_cases h40 : 0 < n4
                  · obtain ⟨g4, d4, hv4, hBg4, hgw4, hNc4⟩ := own_block R6.out h40
                    cases hv4
                    have hz4 : (0 : Int) < (n4 : Int) := by omega
                    go_wp2_with fail
                    go_loopw [14, 15] (fun b i wx => ∃ (p q : Nat), b = .int .i64 p ∧ i = .int .i64 q ∧ p < n4 ∧ q ≤ n4 ∧ 0 < q ∧ (∀ j x y, j < q → gs4[p]? = some x → gs4[j]? = some y → x.lo ≤ y.lo) ∧ Below W0.heap.size W0 wx) (fun _ i _ => n4 - (intOf i).toNat)
                    case atStart => exact ⟨0, 1, rfl, rfl, h40, by omega, by omega, fun j x y hj hx hy => by (obtain rfl : j = 0 := by omega); rw [hx] at hy; cases hy; exact Int.le_refl _, Below.refl _ _⟩
                    case round =>
                      obtain ⟨p5, q5, rfl, rfl, hp5, hq5, hq50, hmin, hb5⟩ := hrel
                      have R7 := Lib.hid (own_below R6.out hb5)
                      have B5 := Lib.hid hb5
                      have MI := Lib.hid hmin
                      have hs5 := hb5.size
                      obtain ⟨x, hx⟩ : ∃ x, gs4[p5]? = some x := ⟨gs4[p5]'(by have := N4.out; omega), by simp⟩
                      obtain ⟨x0, x1, x2⟩ := own_cells R7.out p5 x hx
                      have X := Lib.hid hx
                      have hpz5 : (p5 : Int) < (n4 : Int) := by omega
                      have hp05 : (0 : Int) ≤ (p5 : Int) := by omega
                      clear hmin hb5 hx
                      by_cases hql5 : q5 < n4
                      · obtain ⟨y, hy⟩ : ∃ y, gs4[q5]? = some y := ⟨gs4[q5]'(by have := N4.out; omega), by simp⟩
                        obtain ⟨y0, y1, y2⟩ := own_cells R7.out q5 y hy
                        have Y := Lib.hid hy
                        have hqz5 : (q5 : Int) < (n4 : Int) := by omega
                        have hq05 : (0 : Int) ≤ (q5 : Int) := by omega
                        clear hy
                        by_cases e : y.lo < x.lo
                        · have d5 : decide (y.lo < x.lo) = true := decide_eq_true e
                          have E := Lib.hid e
                          go_wp2_with fail
                          go_quiet (fail)
                          go_wp2
                          go_roundw
                          case rel =>
                            refine ⟨q5, q5 + 1, rfl, by go_num, hql5, by omega, by omega, fun j x' y' hj hx' hy' => ?_, B5.out.trans ((drewN_below _ _).mono hs5)⟩
                            have e1 := Y.out.symm.trans hx'
                            cases e1
                            by_cases ej : j = q5
                            · rw [ej, Y.out] at hy'
                              cases hy'
                              exact Int.le_refl _
                            · have := MI.out j x y' (by omega) X.out hy'
                              have := E.out
                              omega
                          case measure => (simp [RowKit.intOf]; try omega)
                        · have d5 : decide (y.lo < x.lo) = false := decide_eq_false e
                          have E := Lib.hid e
                          go_wp2_with fail
                          go_quiet (fail)
                          go_wp2
                          go_roundw
                          case rel =>
                            refine ⟨p5, q5 + 1, rfl, by go_num, hp5, by omega, by omega, fun j x' y' hj hx' hy' => ?_, B5.out.trans ((drewN_below _ _).mono hs5)⟩
                            have e1 := X.out.symm.trans hx'
                            cases e1
                            by_cases ej : j = q5
                            · rw [ej, Y.out] at hy'
                              cases hy'
                              have := E.out
                              omega
                            · exact MI.out j x y' (by omega) X.out hy'
                          case measure => (simp [RowKit.intOf]; try omega)
                      · obtain rfl : q5 = n4 := by omega
                        have hqz5 : ¬ (q5 : Int) < (q5 : Int) := by omega
                        have NEXT := Lib.hid (show Half own (out4 ++ [sel own x]) (gs4.take p5 ++ gs4.drop (p5 + 1)) by
                          have h := HA.out
                          have hp := (List.getElem?_eq_some_iff.1 X.out)
                          obtain ⟨hp1, hp2⟩ := hp
                          have e : gs4 = gs4.take p5 ++ x :: gs4.drop (p5 + 1) := by rw [← hp2, ← List.drop_eq_getElem_cons hp1, List.take_append_drop]
                          rw [e] at h
                          refine h.next fun y hy => ?_
                          rw [← e] at hy
                          obtain ⟨j, hj⟩ := List.mem_iff_getElem?.1 hy
                          exact MI.out j x y (by have := (List.getElem?_eq_some_iff.1 hj).1; have := N4.out; omega) X.out hj)
                        have R8 := Lib.hid (own_below R13.out B5.out)
                        have PR := Lib.hid (HA.out.proper x (List.mem_of_getElem? X.out))
                        clear MI
                        go_wp2_with fail
                        have XB := Lib.hid (row3 wr x)
                        have R9 := Lib.hid (R7.out.alloc (Obj.cells #[.int .i64 x.lo, .int .i64 x.hi, .int .i64 x.who] 43))
                        have R139 := Lib.hid (R8.out.alloc (Obj.cells #[.int .i64 x.lo, .int .i64 x.hi, .int .i64 x.who] 43))
                        have B9 := Lib.hid (show Below W0.heap.size W0 (wr.alloc (Obj.cells #[.int .i64 x.lo, .int .i64 x.hi, .int .i64 x.who] 43)) from B5.out.alloc hs5 _)
                        obtain ⟨xb, hxb⟩ : ∃ xb, xb = wr.heap.size := ⟨_, rfl⟩
                        rw [← hxb] at XB
                        rw [← hxb]
                        clear R7 R8 x0 x1 x2 B5 hs5 hxb
                        generalize (wr.alloc (Obj.cells #[.int .i64 x.lo, .int .i64 x.hi, .int .i64 x.who] 43)) = W9 at *
                        have hs9 : W0.heap.size ≤ W9.heap.size := B9.out.size
                        have hW0 : wr'.heap.size ≤ W0.heap.size := B4.out.size
                        obtain ⟨_, _, hv9, hc9, _, hr9⟩ := own_row gp_len (by decide) R9.out
                        cases hv9
                        have RW := Lib.hid hr9
                        have hwr : IntKind.i64.wrap ((p5 : Int) + 1) = (p5 : Int) + 1 := IntWalk.i64_in _ (by omega)
                        have hq1 : (0 : Int) ≤ (p5 : Int) + 1 := by omega
                        have hq2 : (p5 : Int) + 1 ≤ (q5 : Int) := by omega
                        have hs1 := slice_to (some ⟨g4, 0, none⟩) q5 c6' p5 (by omega)
                        obtain ⟨a2, hs2, hn2, tr2⟩ := row_from (some ⟨g4, 0, none⟩) q5 c6' p5 hp5 hc9 (fun h => by cases h)
                        have TR := Lib.hid tr2
                        have N1 := Lib.hid (show (some (⟨g4, 0, none⟩ : Addr)) = none → p5 = 0 ∧ c6' = 0 from fun h => by cases h)
                        have N2 := Lib.hid hn2
                        have LX := Lib.hid (show (flat Gp.cells (gs4.take p5)).length = p5 * 3 by rw [flat_len gp_len, List.length_take, ← N4.out]; omega)
                        have LZ := Lib.hid (show (flat Gp.cells (gs4.drop (p5 + 1))).length = (q5 - (p5 + 1)) * 3 by rw [flat_len gp_len, List.length_drop, ← N4.out])
                        have LIT := Lib.hid (show ((W9.alloc (Obj.cells #[] 43)).drew).ownsRow W9.heap.size 43 3 (.slice (some ⟨W9.heap.size, 0, none⟩) 0 0) 0 [] from World.ownsRow_lit W9 #[] 0 (Nat.le_refl _) (by unfold maxLen; omega) rfl)
                        clear hn2 tr2 hr9
                        go_upto_region 40 with fail
                        go_cut [6] from 179 to 243 (fun s6 wx => wx.ownsRow w.heap.size 43 3 s6 (q5 - 1) (flat Gp.cells (gs4.take p5 ++ gs4.drop (p5 + 1))) ∧ Below W9.heap.size W9 wx)
                        case first =>
                          go_region_law (first
                            | (refine step_append_in rfl (.tmp 204) (.tmp 207) 40 rfl W9.heap.size 43 i4 _ 3 24 Try.underlying40 hi4 hx0 hx1 hx2 rfl (by decide) (.slice (some ⟨W9.heap.size, 0, none⟩) 0 0) 0 [] (by simp [Act.eval]) LIT.out (some ⟨g4, 0, none⟩) p5 c6' (flat Gp.cells (gs4.take p5)) (by simp [Act.eval]) N1.out LX.out (row_holds (row_take gp_len (RW.out.below (((Below.refl _ _).alloc (Nat.le_refl _) _).drew)) p5 (by omega))) (gp_one _) (by unfold maxLen; omega) (by omega) (by simp) ?_; intro v2 w3 own2 gr2; have O2 := Lib.hid own2; have B8 := Lib.hid (show Below W9.heap.size W9 w3 from ((((Below.refl _ _).alloc (Nat.le_refl _) _).drew).grown gr2 (by simp) (fun k hk => by simp [Value.ownBlock] at hk; omega))); clear own2 gr2)
                            | (refine step_append_in rfl (.tmp 208) (.tmp 212) 40 rfl W9.heap.size 43 i4 _ 3 24 Try.underlying40 hi4 hx0 hx1 hx2 rfl (by decide) v2 _ _ (by simp [Act.eval]) O2.out a2 (q5 - (p5 + 1)) (c6' - (p5 + 1)) (flat Gp.cells (gs4.drop (p5 + 1))) (by simp [Act.eval]) N2.out LZ.out (row_holds (TR.out _ _ _ (RW.out.below B8.out))) (gp_one _) (by unfold maxLen; omega) (by omega) B8.out.size ?_; intro v3 w4 own3 gr3; have O3 := Lib.hid own3; have B10 := Lib.hid (show Below W9.heap.size W9 w4 from B8.out.grown gr3 B8.out.size (fun k hk => (O2.out.lt k hk).1)); clear own3 gr3))
                          all_goals
                            have own' := O3.out
                            rw [List.nil_append, ← flat_append] at own'
                            rw [show 0 + p5 + (q5 - (p5 + 1)) = q5 - 1 by omega] at own'
                            have OW := Lib.hid (own_mono own' (show w.heap.size ≤ W9.heap.size by omega))
                            clear own'
                            go_wp2_with fail
                            go_meet
                            exact ⟨OW.out, B10.out⟩
                        case rest =>
                          obtain ⟨hR6, hB10⟩ := hcut
                          rename World => w4
                          have OW := Lib.hid hR6
                          have HLN := Lib.hid (show (gs4.take p5 ++ gs4.drop (p5 + 1)).length = q5 - 1 by rw [cut_len (by rw [← N4.out]; exact hp5), ← N4.out])
                          have R10 := Lib.hid (own_below R139.out hB10)
                          have B11 := Lib.hid (B9.out.trans (hB10.mono hs9))
                          have XB2 := Lib.hid (XB.out.of_block (hB10.block _ XB.out.lt))
                          have xc0 : w4.cell? ⟨xb, 0, none⟩ = some (.int .i64 x.lo) := XB2.out.cell (i := 0) (by omega)
                          have xc1 : w4.cell? ⟨xb, 1, none⟩ = some (.int .i64 x.hi) := XB2.out.cell (i := 1) (by omega)
                          have hs10 : W0.heap.size ≤ w4.heap.size := B11.out.size
                          clear hR6 hB10 R139 B9 XB R9 RW TR N1 N2 LX LZ LIT
                          go_upto_region 42 with fail
                          have SB := Lib.hid (row2 w4 x.lo x.hi)
                          have XB3 := Lib.hid (XB2.out.alloc (Obj.cells #[.int .i64 x.lo, .int .i64 x.hi] 24))
                          have OW2 := Lib.hid (OW.out.alloc (Obj.cells #[.int .i64 x.lo, .int .i64 x.hi] 24))
                          have R11 := Lib.hid (R10.out.alloc (Obj.cells #[.int .i64 x.lo, .int .i64 x.hi] 24))
                          have B12 := Lib.hid (show Below W0.heap.size W0 (w4.alloc (Obj.cells #[.int .i64 x.lo, .int .i64 x.hi] 24)) from B11.out.alloc hs10 _)
                          have hxs : xb < w4.heap.size := XB2.out.lt
                          have NE6 := Lib.hid (show ∀ b, u6.ownBlock = some b → b < w4.heap.size from fun b hb => (OW.out.lt b hb).2)
                          have NE13 := Lib.hid (show ∀ b, u13.ownBlock = some b → b < w4.heap.size from fun b hb => (R10.out.lt b hb).2)
                          obtain ⟨sb, hsb⟩ : ∃ sb, sb = w4.heap.size := ⟨_, rfl⟩
                          rw [← hsb] at SB hxs NE6 NE13 hs10
                          rw [← hsb]
                          clear OW R10 B11 XB2 xc0 xc1 hsb
                          generalize (w4.alloc (Obj.cells #[.int .i64 x.lo, .int .i64 x.hi] 24)) = W11 at *
                          have xc2 : W11.cell? ⟨xb, 2, none⟩ = some (.int .i64 x.who) := XB3.out.cell (i := 2) (by omega)
                          have sc0 : W11.cell? ⟨sb, 0, none⟩ = some (.int .i64 x.lo) := SB.out.cell (i := 0) (by omega)
                          have sc1 : W11.cell? ⟨sb, 1, none⟩ = some (.int .i64 x.hi) := SB.out.cell (i := 1) (by omega)
                          have xc0 : W11.cell? ⟨xb, 0, none⟩ = some (.int .i64 x.lo) := XB3.out.cell (i := 0) (by omega)
                          have xc1 : W11.cell? ⟨xb, 1, none⟩ = some (.int .i64 x.hi) := XB3.out.cell (i := 1) (by omega)
                          have sf0 := SB.out.frozen 0
                          have sf1 := SB.out.frozen 1
                          have hne : xb ≠ sb := by omega
                          have hne' : sb ≠ xb := by omega
                          go_upto_if 221 with fail
                          go_cut [] from 179 to 243 (fun wx => wx.rowIs sb 24 2 (sl2 (sel own x).a (sel own x).h) ∧ wx.ownsRow w.heap.size 43 3 u6 (q5 - 1) (flat Gp.cells (gs4.take p5 ++ gs4.drop (p5 + 1))) ∧ wx.ownsRow wr'.heap.size 24 2 u13 out4.length (flat Sl.cells out4) ∧ Below W0.heap.size W0 wx)
                          case first =>
                            rcases HA.out.sure x (List.mem_of_getElem? X.out) with ⟨hw, _⟩ | ⟨i, s, hw, hf⟩
                            · have d6 : decide (0 ≤ x.who) = false := decide_eq_false (by omega)
                              have hw2 : ¬ 0 ≤ x.who := by omega
                              have E := Lib.hid (show sel own x = ⟨x.lo, x.hi⟩ by unfold sel; rw [if_neg hw2])
                              go_wp2_with fail
                              go_meet
                              case rel => exact ⟨by rw [E.out]; exact SB.out, OW2.out, R11.out, B12.out⟩
                            · have hs := Lib.hid hf.1
                              have hit : x.who.toNat = i := by omega
                              have h0w : 0 ≤ x.who := by omega
                              have d6 : decide (0 ≤ x.who) = true := decide_eq_true h0w
                              obtain ⟨_, _, hv5, _, _, hr5'⟩ := own_row sl_len (by decide) R53.out
                              cases hv5
                              have hik : i < k := by rw [← hlo]; exact (List.getElem?_eq_some_iff.1 hf.1).1
                              rcases ((hr5'.below B4.out).below B12.out).2 with h0 | ⟨b5, off5, rfl, _, hc5'⟩
                              · omega
                              · obtain ⟨k0, k1⟩ := slCells hc5' i s hf.1
                                have hiz : (i : Int) < (k : Int) := by omega
                                have hi0 : (0 : Int) ≤ (i : Int) := by omega
                                clear hc5' hr5'
                                by_cases hb : s.h < s.a
                                · have d7 : decide (s.h < s.a) = true := decide_eq_true hb
                                  have E := Lib.hid (show sel own x = ⟨x.hi, x.lo⟩ by unfold sel; rw [if_pos h0w, hit, hs.out]; simp only; rw [if_pos hb])
                                  rw [hw] at xc2
                                  clear hw hit hf
                                  go_wp2_with fail
                                  go_quiet (fail)
                                  have SB2 := Lib.hid (show (W11.drewN nq).rowIs sb 24 2 (sl2 x.lo x.hi) from SB.out.of_block rfl)
                                  have XB4 := Lib.hid (show (W11.drewN nq).rowIs xb 43 3 (gp3 x) from XB3.out.of_block rfl)
                                  have OW3 := Lib.hid (own_below OW2.out (drewN_below W11 nq))
                                  have R12 := Lib.hid (own_below R11.out (drewN_below W11 nq))
                                  have B13 := Lib.hid (B12.out.trans ((drewN_below W11 nq).mono B12.out.size))
                                  clear SB XB3 OW2 R11 B12 xc0 xc1 xc2 sc0 sc1 sf0 sf1 k0 k1
                                  generalize (W11.drewN nq) = W12 at *
                                  clear nq
                                  have sc0 : W12.cell? ⟨sb, 0, none⟩ = some (.int .i64 x.lo) := SB2.out.cell (i := 0) (by omega)
                                  have sc1 : W12.cell? ⟨sb, 1, none⟩ = some (.int .i64 x.hi) := SB2.out.cell (i := 1) (by omega)
                                  have xc0 : W12.cell? ⟨xb, 0, none⟩ = some (.int .i64 x.lo) := XB4.out.cell (i := 0) (by omega)
                                  have xc1 : W12.cell? ⟨xb, 1, none⟩ = some (.int .i64 x.hi) := XB4.out.cell (i := 1) (by omega)
                                  have sf0 := SB2.out.frozen 0
                                  have sf1 := SB2.out.frozen 1
                                  go_wp2_with fail
                                  go_meet
                                  case rel =>
                                    refine ⟨?_, ?_, ?_, ?_⟩
                                    · rw [E.out]
                                      refine ((SB2.out.set 0 (.int .i64 x.hi)).set 1 (.int .i64 x.lo)).congr fun i hi => ?_
                                      match i, hi with
                                      | 0, _ => rfl
                                      | 1, _ => rfl
                                    · exact ownsRow_setCell_other (ownsRow_setCell_other OW3.out (fun h => absurd (NE6.out _ h) (Nat.lt_irrefl _)) _) (fun h => absurd (NE6.out _ h) (Nat.lt_irrefl _)) _
                                    · exact ownsRow_setCell_other (ownsRow_setCell_other R12.out (fun h => absurd (NE13.out _ h) (Nat.lt_irrefl _)) _) (fun h => absurd (NE13.out _ h) (Nat.lt_irrefl _)) _
                                    · exact (B13.out.setCell hs10 _).setCell hs10 _
                                · have d7 : decide (s.h < s.a) = false := decide_eq_false hb
                                  have E := Lib.hid (show sel own x = ⟨x.lo, x.hi⟩ by unfold sel; rw [if_pos h0w, hit, hs.out]; simp only; rw [if_neg hb])
                                  rw [hw] at xc2
                                  clear hw hit hf
                                  go_wp2_with fail
                                  go_quiet (fail)
                                  go_wp2_with fail
                                  go_meet
                                  case rel => exact ⟨by rw [E.out]; exact SB.out.of_block rfl, own_below OW2.out (drewN_below _ _), own_below R11.out (drewN_below _ _), B12.out.trans ((drewN_below _ _).mono B12.out.size)⟩
                          case rest =>
                            obtain ⟨hSB, hOW, hR13, hB⟩ := hcut
                            rename World => W13
                            obtain ⟨sa, hsa⟩ : ∃ sa, sa = (sel own x).a := ⟨_, rfl⟩
                            obtain ⟨sh, hsh⟩ : ∃ sh, sh = (sel own x).h := ⟨_, rfl⟩
                            rw [← hsa, ← hsh] at hSB
                            have SE := Lib.hid (show sel own x = ⟨sa, sh⟩ by rw [hsa, hsh])
                            have sc0 : W13.cell? ⟨sb, 0, none⟩ = some (.int .i64 sa) := hSB.cell (i := 0) (by omega)
                            have sc1 : W13.cell? ⟨sb, 1, none⟩ = some (.int .i64 sh) := hSB.cell (i := 1) (by omega)
                            have OW5 := Lib.hid hOW
                            have R15 := Lib.hid hR13
                            have B15 := Lib.hid hB
                            have hs15 : W0.heap.size ≤ W13.heap.size := hB.size
                            clear SB XB3 OW2 R11 B12 xc2 sf0 sf1 hSB hOW hR13 hB hsa hsh
                            go_wp2_with (at_builtin; refine wpList_append_own _ rfl _ _ 22 rfl wr'.heap.size 24 i2 (.agg #[.int .i64 0, .int .i64 0]) 2 16 Try.underlying22 hi2 hy0 hy1 hy2 rfl (by decide) _ _ _ rfl (R15.out.alloc _) ⟨W13.heap.size, 0, none⟩ 1 1 (Sl.cells ⟨sa, sh⟩) rfl rfl (new_cells _ _ _) (by intro u hu; simp [Sl.cells] at hu; rcases hu with rfl | rfl <;> rfl) (by unfold maxLen; omega) (by omega) (by simp; omega) ?_)
                            intro v13 w13 own13 gr13 _
                            have R16 := Lib.hid own13
                            have OW6 := Lib.hid ((OW5.out.alloc _).kept gr13 (own_ne OW5.out R15.out (by decide)))
                            have B16 := Lib.hid (show Below wr'.heap.size wr' w13 from ((B4.out.trans (B15.out.mono hW0)).alloc (by omega) _).grown gr13 (by simp; omega) (fun j hj => (R15.out.lt j hj).1))
                            clear own13 gr13
                            go_wp2_with fail
                            go_roundw
                            case rel => exact ⟨_, _, NEXT.out, by have := HLN.out; simp only [List.length_append, List.length_singleton] at *; omega, by rw [HLN.out]; exact OW6.out, by rw [flat_append, flat_one, SE.out, List.length_append]; exact R16.out, B16.out⟩
                            case measure => rw [hl6']; exact Nat.lt_of_le_of_lt (Nat.le_of_eq (own_lenV OW6.out)) (by omega)
                  · obtain rfl : n4 = 0 := by omega
                    obtain rfl : gs4 = [] := List.eq_nil_of_length_eq_zero N4.out.symm
                    have NM := Lib.hid (HA.out.done)
                    have hBB : w.heap.size ≤ W0.heap.size := by have := B4.out.size; omega
                    have B5 := Lib.hid (show Below w.heap.size w W0 from B3.out.trans (B4.out.mono hBw))
                    have R14 := Lib.hid (own_mono R13.out hBw)
                    obtain ⟨a13, c13, rfl, _, _, _⟩ := own_row sl_len (by decide) R13.out
                    by_cases h0 : out4.length = 0
                    · have EO1 := Lib.hid (show own = [] by
                        have h := NM.out
                        rw [List.eq_nil_of_length_eq_zero h0] at h
                        exact h.nil)
                      have hz : ((out4.length : Nat) : Int) = 0 := by omega
                      have EL := Lib.hid h0
                      go_wp2_with (at_builtin; refine wpList_append_own _ rfl _ _ 22 rfl w.heap.size 24 i2 (.agg #[.int .i64 0, .int .i64 0]) 2 16 Try.underlying22 hi2 hy0 hy1 hy2 rfl (by decide) _ _ _ rfl (R14.out.alloc _) ⟨W0.heap.size, 0, none⟩ 1 1 (Sl.cells ⟨0, 0⟩) rfl rfl (new_cells _ _ _) (by intro u hu; simp [Sl.cells] at hu; subst hu; rfl) (by unfold maxLen; omega) (by omega) (by simp; omega) ?_)
                      intro v14 w14 own14 gr14 _
                      have R15 := Lib.hid own14
                      have B6 := Lib.hid (show Below w.heap.size w w14 from (B5.out.alloc (by omega) _).grown gr14 (by simp; omega) (fun j hj => (R14.out.lt j (by cases a13 with | none => simp [Value.ownBlock] at hj | some z => exact hj)).1))
                      clear own14 gr14
                      go_wp2
                      go_ret
                      refine ⟨_, [⟨0, 0⟩], rfl, .inl ⟨by rw [← HO.out]; exact EO1.out, rfl⟩, ?_, B6.out⟩
                      have h := R15.out
                      rw [List.eq_nil_of_length_eq_zero EL.out] at h
                      rw [flat_one]
                      simpa [flat] using h
                    · have EO1 := Lib.hid (show own ≠ [] by
                        rintro rfl
                        exact h0 (by rw [norm_none NM.out]; rfl))
                      have hz : ((out4.length : Nat) : Int) ≠ 0 := by omega
                      have hz2 : ((out4.length : Int) == 0) = false := by rw [beq_eq_false_iff_ne]; omega
                      go_wp2
                      go_ret
                      exact ⟨_, out4, rfl, .inr ⟨by rw [← HO.out]; exact EO1.out, by rw [← HO.out]; exact NM.out⟩, R14.out, B5.out⟩
            · have R63 := Lib.hid hr6
              have LT := Lib.hid hlt
              obtain ⟨a7, c7, rfl, _, _, _⟩ := own_row gp_len (by decide) hr6
              clear hr6 hr5 hbel hG hlt
              by_cases hqz : (p : Int) < (gs.length : Int)
              · go_wp2_with fail
                go_roundw
                case rel => exact ⟨gs, G3.out, by omega, R63.out, R53.out, B3.out⟩
                case measure => rw [hl6]; exact LT.out
              · go_wp2_with fail
                go_roundw
                case rel => exact ⟨gs, G3.out, by omega, R63.out, R53.out, B3.out⟩
                case measure => rw [hl6]; exact LT.out
end Go.Proofs.Ytdpmkfjomkemhaa
