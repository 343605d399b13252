/- The walk of MarksPlay. Conditions: the deeds lie in memory. -/
import Derived.Test.YtlihgcpiokaehaaKinds
import Derived.Deep.CutRange
import Derived.Deep.CutBlock
namespace Go.Proofs.Ytlihgcpiokaehaa
open Go Go.RowKit

set_option maxHeartbeats 16000000 in
set_option maxRecDepth 100000 in
theorem play_main (da : Option Addr) (m c : Nat) (ds : List Dd) (w : World) (hm : m ≤ 100) (hds : Rows 9 Dd.cells w da m ds) :
    Calls Try.prog 4 #[.slice da m c] w fun e w' => e = .returned (.bool true) ∧ Below w.heap.size w w' := by
  obtain ⟨i1, hi1, hy0, hy1, hy2⟩ := info_parts Try.info3
  have K := Lib.hid knows
  have N := Lib.hid (new w)
  have DS := Lib.hid hds
  have hz : ¬ (100 : Int) < (m : Int) := by omega
  clear hds
  go_enter Try.func4, Try.ntmps4
  go_wp2_with fail
  (with_reducible refine N.out.mono ?_)
  rintro e w1 ⟨rfl, m1, b1⟩
  have S1 := Lib.hid (show Stand w 0 (.slice none 0 0) (.int .i64 0) w1 from ⟨0, none, 0, [], rfl, Nat.le_refl _, rfl, ⟨⟨rfl, .inl rfl⟩, Nat.le_refl _, fun _ => ⟨rfl, rfl⟩⟩, m1, b1⟩)
  clear m1 b1
  go_wp2_with fail
  go_loopg [4, 5, 6] m (fun gg l last i wr => ∃ k : Nat, k ≤ m ∧ m - k ≤ gg ∧ i = .int .i64 k ∧ Stand w k l last wr)
  case atStart => exact ⟨0, Nat.zero_le _, by omega, rfl, S1.out⟩
  case round =>
    obtain ⟨k, hk, hgg, rfl, hst⟩ := hrel
    obtain ⟨lst, la, lc, rs, rfl, hlst, rfl, hL, hM, hbel⟩ := hst
    have LL0 := Lib.hid hL
    have MM0 := Lib.hid hM
    have BB0 := Lib.hid hbel
    by_cases hkm : k < m
    · obtain ⟨dd, hdd⟩ : ∃ dd, ds[k]? = some dd := ⟨ds[k]'(by have := DS.out.1; omega), by simp⟩
      rcases DS.out.2 with h0 | ⟨b, off, rfl, hb, hc⟩
      · omega
      have c0 := (hbel.cell (by exact hb)).trans (hc k dd hdd 0 _ rfl)
      have c1 := (hbel.cell (by exact hb)).trans (hc k dd hdd 1 _ rfl)
      have c2 := (hbel.cell (by exact hb)).trans (hc k dd hdd 2 _ rfl)
      have c3 := (hbel.cell (by exact hb)).trans (hc k dd hdd 3 _ rfl)
      have c4 := (hbel.cell (by exact hb)).trans (hc k dd hdd 4 _ rfl)
      have c5 := (hbel.cell (by exact hb)).trans (hc k dd hdd 5 _ rfl)
      have c6 := (hbel.cell (by exact hb)).trans (hc k dd hdd 6 _ rfl)
      have c7 := (hbel.cell (by exact hb)).trans (hc k dd hdd 7 _ rfl)
      have c8 := (hbel.cell (by exact hb)).trans (hc k dd hdd 8 _ rfl)
      have hkz : (k : Int) < (m : Int) := by omega
      have hk0 : (0 : Int) ≤ (k : Int) := by omega
      simp only [Nat.add_zero] at c0 c1 c2 c3 c4 c5 c6 c7 c8
      have bb := Below.alloc (Below.refl wr.heap.size wr) (Nat.le_refl _) (Obj.cells #[.int .i64 dd.what, .int .i64 dd.n, .int .i64 dd.x.f, .int .i64 dd.x.t, .bool dd.x.l, .bool dd.x.r, .int .i64 dd.e.x, .int .i64 dd.e.d, .slice dd.e.a dd.e.n dd.e.c] 45)
      have XX0 := row9 wr dd
      have hL1 := hL.below bb
      have hM1 := hM.below bb
      have hB1 := hbel.trans (bb.mono hbel.size)
      obtain ⟨xb, hxb⟩ : ∃ xb, xb = wr.heap.size := ⟨_, rfl⟩
      have hxw : w.heap.size < xb := by have := hM.lt; omega
      have hs60 := hM.len
      clear hL hM hbel hc hdd
      by_cases h300 : 300 < dd.e.n
      · as_aux_lemma =>
          have hz3 : (300 : Int) < (dd.e.n : Int) := by omega
          have HB1 := Lib.hid hB1
          have hs1 := hB1.size
          clear hL1 hM1 hB1 XX0 bb LL0 MM0 BB0
          go_wp2_with fail
          (with_reducible refine (K.out _).mono ?_)
          rintro e w2 ⟨rfl, b2⟩
          have B2 := Lib.hid (HB1.out.trans (b2.mono hs1))
          clear b2
          go_wp2
          go_ret
          exact ⟨rfl, B2.out⟩
      · have hz3 : ¬ (300 : Int) < (dd.e.n : Int) := by omega
        have FI := Lib.hid (find la rs.length lc dd.n rs _ hs60 hL1.row)
        obtain ⟨what, dn, ⟨xf, xt, xl, xr⟩, ⟨ex, ed, ea, en, ec⟩⟩ := dd
        simp only at c0 c1 c2 c3 c4 c5 c6 c7 c8 XX0 hL1 hM1 hB1 FI hz3 h300
        rw [← hxb] at XX0
        have XX := Lib.hid XX0
        have LL := Lib.hid hL1
        have MM := Lib.hid hM1
        have BB := Lib.hid hB1
        clear XX0 hL1 hM1 hB1 bb LL0 MM0 BB0
        go_wp2_with fail
        generalize (wr.alloc (Obj.cells #[.int .i64 what, .int .i64 dn, .int .i64 xf, .int .i64 xt, .bool xl, .bool xr, .int .i64 ex, .int .i64 ed, .slice ea en ec] 45)) = W at *
        (with_reducible refine FI.out.mono ?_)
        rintro e w' ⟨rfl, rfl⟩
        obtain ⟨d0, d1, d2, d3, d4, d5, d6, d7, d8⟩ := row9_cells XX.out
        simp only at d0 d1 d2 d3 d4 d5 d6 d7 d8
        rw [← hxb]
        have hxW : xb < W.heap.size := XX.out.lt
        have hxne : xb ≠ w.heap.size := by omega
        clear hxb c0 c1 c2 c3 c4 c5 c6 c7 c8 FI
        go_upto_block 2 with fail
        go_cut [4, 5, 9, 10, 11, 12, 13, 14, 15, 16, 17, 18, 19, 20, 21, 22, 23, 24, 25] from 41 to 369 (fun s4 s5 _ _ _ _ _ _ _ _ _ _ _ _ _ _ _ _ _ wc => Stand w (k + 1) s4 s5 wc)
        case first =>
          as_aux_lemma =>
            rename_i J0 K0 hR0 hM0
            refine kind_any _ _ _ _ _ _ _ _ _ _ _ _ _ _ _ _ _ _ _ _ _ _ _ _ _ _ _ _ _ _ _ _ _ _ _ _ _ _ _ _ _ _ _ _ _ _ _ _ _ _ _ _ _ _ _ _ _ _ _ _ _ _ _ _ _ _ _ _ _ _ _ _ _ _ _ _ _ _ _ _ _ _ _ _ _ _ _ _ _ _ _ _ _ _ _ _ _ _ _ _ _ _ _ _ _ _ _ _ _ _ _ _ _ _ _ _ _ _ _ _ _ _ _ _ _ _ _ _ _ _ _ _ _ _ _ _ _ _ _ _ _ _ _ _ _ _ _ _ _ _ _ _ _ _ _ _ _ _ _ _ _ _ _ _ _ _ _ _ _ _ _ _ _ _ _ _ _ _ _ _ _ _ _ _ _ _ _ _ _ _ _ _ _ _ _ _ _ _ _ _ _ _ _ _ _ _ _ _ _ _ _ _ _ _ _ _ _ _ _ _ _ _ _ _ _ _ _ _ _ _ _ _ _ _ _ _ _ _ _ _ _ _ _ _ _ _ _ _ _ _ _ _ _ _ _ _ _ _ _ _ _ _ _ _ _ _ _ _ _ _ _ _ _ _ _ _ _ _ _ _ _ _ _ _ _ _ _ _ _ _ _ _ _ _ _ _ _ _ _ _ _ _ _ _ _ _ _ _ _ _ _ _ _ _ _ _ _ _ _ _ _ _ _ _ _ _ _ _ _ _ _ _ _ _ _ _ _ _ _ _ _ _ _ _ _ _ _ _ _ _ _ _ _ _ _ _ _ _ _ _ _ _ _ _ _ K0 _ w W k lst lc xb en ec la ea rs what dn xf xt ex ed xl xr LL.out MM.out XX.out BB.out hxw (by omega) (by omega) hlst ?_
            unfold Meets
            intro _ _ _ _ _ _ _ _ _ _ _ _ _ _ _ _ _ _ _ _ _ _ _ _ _ _ _ _ _ _ _ _ _ _ _ _ _ _ _ _ _ _ _ _ _ _ _ _ _ _ _ _ _ _ _ _ _ _ _ _ _ _ _ _ _ _ _ _ _ _ _ _ _ _ _ _ _ _ _ _ _ _ _ _ _ _ _ _ _ _ _ _ _ _ _ _ _ _ _ _ _ _ _ _ _ _ _ _ _ _ _ _ _ _ _ _ _ _ _ _ _ _ _ _ _ _ _ _ _ _ _ _ _ _ _ _ _ _ _ _ _ _ _ _ _ _ _ _ _ _ _ _ _ _ _ _ _ _ _ _ _ _ _ _ _ _ _ _ _ _ _ _ _ _ _ _ _ _ _ _ _ _ _ _ _ _ _ _ _ _ _ _ _ _ _ _ _ _ _ _ _ _ _ _ _ _ _ _ _ _ _ _ _ _ _ _ _ _ _ _ _ _ _ _ _ _ _ _ _ _ _ _ _ _ _ _ _ _ _ _ _ _ _ _ _ _ _ _ _ _ _ _ _ _ _ _ _ _ _ _ _ _ _ _ _ _ _ _ _ _ _ _ _ _ _ _ _ _ _ _ _ _ _ _ _ _ _ _ _ _ _ _ _ _ _ _ _ _ _ _ _ _ _ _ _ _ _ _ _ _ _ _ _ _ _ _ _ _ _ _ _ _ _ _ _ _ _ _ _ _ _ _ _ _ _ _ _ _ _ _ _ _ _ _ _ _ _ _ _ wc hst
            refine hM0 _ _ (Met.intro (hR0 _ _ ?_))
            (repeat apply Exists.intro)
            exact ⟨hst, rfl⟩
        case rest =>
          as_aux_lemma =>
            obtain ⟨lst2, la2, lc2, rs2, rfl, hlst2, rfl, hL2, hM2, hB2⟩ := hcut
            obtain ⟨n2, hn2⟩ : ∃ n2, n2 = rs2.length := ⟨_, rfl⟩
            have HN := Lib.hid hn2
            have R2 := Lib.hid (show RowAt 35 wc la2 n2 rs2 by rw [hn2]; exact hL2.row)
            have L2 := Lib.hid hL2
            have M2 := Lib.hid hM2
            have B2 := Lib.hid hB2
            have h602 : n2 ≤ 60 := by rw [hn2]; exact hM2.len
            have hwc := hB2.size
            rw [← hn2]
            clear hL2 hM2 hB2 hn2 d0 d1 d2 d3 d4 d5 d6 d7 d8
            go_wp2_with fail
            go_loopw [26, 27] (fun v i wr => ∃ q : Nat, q ≤ n2 ∧ i = .int .i64 q ∧ wr.ownsRow wc.heap.size 3 1 v q (ints64 ((rs2.take q).map Rg.i)) ∧ Below wc.heap.size wc wr) (fun _ i _ => n2 - (intOf i).toNat)
            case atStart => exact ⟨0, Nat.zero_le _, rfl, World.ownsRow_nil _ _ _ _, Below.refl _ _⟩
            case round =>
              obtain ⟨q, hq, rfl, hown, hbel⟩ := hrel
              have O := Lib.hid hown
              have B := Lib.hid hbel
              have hwz := hbel.size
              by_cases hqn : q < n2
              · as_aux_lemma =>
                obtain ⟨y, hy⟩ : ∃ y, rs2[q]? = some y := ⟨rs2[q]'(by have := HN.out; omega), by simp⟩
                rcases R2.out.2 with h0 | ⟨b2, off2, rfl, ⟨cur, fr, hh⟩, hc2⟩
                · omega
                obtain ⟨_, _, _, _, c4⟩ := rgCells hc2 q y hy
                have e4 := (hbel.cell (by exact lt_of_block hh)).trans c4
                have hqz : (q : Int) < (n2 : Int) := by omega
                have hq0 : (0 : Int) ≤ (q : Int) := by omega
                have SN := Lib.hid (show ints64 ((rs2.take (q + 1)).map Rg.i) = ints64 ((rs2.take q).map Rg.i) ++ [.int .i64 y.i] by rw [List.take_add_one, hy]; simp [ints64])
                obtain ⟨f, t, l, r, i⟩ := y
                simp only at e4 SN
                clear hbel hown hc2 hh hy c4
                go_wp2_with (at_builtin; refine wpList_append_own _ rfl _ _ 52 rfl wc.heap.size 3 i1 _ 1 8 Try.underlying52 hi1 hy0 hy1 hy2 rfl (by decide) _ _ _ rfl (O.out.alloc _) ⟨wr.heap.size, 0, none⟩ 1 1 [.int .i64 i] rfl rfl (new_one wr _) (by intro u hu; rw [List.mem_singleton.1 hu]; rfl) (by unfold maxLen; omega) (by omega) (by simp; omega) ?_)
                intro v3 w3 own3 gr3 _
                have O3 := Lib.hid own3
                have B3 := Lib.hid (show Below wc.heap.size wc w3 from (B.out.alloc hwz _).grown gr3 (by simp; omega) (fun k hk => (O.out.lt k hk).1))
                clear own3 gr3
                go_wp2
                go_roundw
                case rel =>
                  refine ⟨q + 1, by omega, by go_num, ?_, B3.out⟩
                  rw [SN.out]
                  first
                    | exact O3.out
                    | (rw [List.map_take]; exact O3.out)
                case measure => simp [intOf]; omega
              · have hqz : ¬ (q : Int) < (n2 : Int) := by omega
                have e : rs2.take q = rs2 := List.take_of_length_le (by have := HN.out; omega)
                have eq : q = n2 := by omega
                rw [e, eq] at hown
                have M3 := Lib.hid (M2.out.below hbel)
                have AL := all_marks w.heap.size w.heap.size lst2 rs2 _ M3.out
                unfold Gave at AL
                rw [List.length_map, ← HN.out] at AL
                have AA := Lib.hid AL
                have O2 := Lib.hid hown
                clear hown hbel e AL
                go_wp2_with fail
                (with_reducible refine AA.out.mono ?_)
                rintro e w5 ⟨v5, rfl, o5, b5⟩
                obtain ⟨a5, c5, rfl, i5⟩ := own_ints o5
                obtain ⟨av, cv, rfl, i2⟩ := own_ints (own_below O2.out b5)
                have SM := Lib.hid (same a5 av n2 c5 cv (rs2.map Rg.i) w5 (by omega) i5 i2)
                have B5 := Lib.hid (B.out.trans (b5.mono hwz))
                have hs5 : wc.heap.size ≤ w5.heap.size := Nat.le_trans hwz b5.size
                clear o5 b5 i5 i2
                go_wp2_with fail
                (with_reducible refine SM.out.mono ?_)
                rintro e w6 ⟨rfl, b6⟩
                have S := Lib.hid (stand_below (k' := k + 1) L2.out M2.out B2.out (B5.out.trans (b6.mono hs5)) hlst2)
                clear b6
                go_wp2
                (try rw [HN.out])
                go_roundg (m - (k + 1))
                case measure => omega
                case rel => exact ⟨k + 1, by omega, by omega, by go_num, S.out⟩
    · have hkz : ¬ (k : Int) < (m : Int) := by omega
      have hwz := hbel.size
      clear hL hM hbel
      go_wp2_with fail
      (with_reducible refine (K.out _).mono ?_)
      rintro e w2 ⟨rfl, b2⟩
      have B2 := Lib.hid (BB0.out.trans (b2.mono hwz))
      clear b2
      go_wp2
      go_ret
      exact ⟨rfl, B2.out⟩

set_option maxRecDepth 100000 in
theorem play_long (da : Option Addr) (m c : Nat) (w : World) (hm : 100 < m) :
    Calls Try.prog 4 #[.slice da m c] w fun e w' => e = .returned (.bool true) ∧ Below w.heap.size w w' := by
  have K := Lib.hid knows
  have N := Lib.hid (new w)
  have hz : (100 : Int) < (m : Int) := by omega
  go_enter Try.func4, Try.ntmps4
  go_wp2_with fail
  (with_reducible refine N.out.mono ?_)
  rintro e w1 ⟨rfl, _, b1⟩
  have B1 := Lib.hid b1
  have hs1 := b1.size
  clear b1
  go_wp2_with fail
  (with_reducible refine (K.out _).mono ?_)
  rintro e w2 ⟨rfl, b2⟩
  have B2 := Lib.hid (B1.out.trans (b2.mono hs1))
  clear b2
  go_wp2
  go_ret
  exact ⟨rfl, B2.out⟩
end Go.Proofs.Ytlihgcpiokaehaa
