/- The walk of RopePlays. -/
import Derived.Test.YtlijkejadjkbcaaPlayB
namespace Go.Proofs.Ytlijkejadjkbcaa
open Go Go.RowKit

set_option maxHeartbeats 8000000 in
set_option maxRecDepth 100000 in
theorem plays_main (a ad : Option Addr) (n cap m mc : Nat) (zs : List Int) (ds : List Dd) (w : World) (hn : n ≤ 2000) (_hcap : n ≤ cap) (hz : SeqAt .i32 w a n zs) (hna : a = none → n = 0 ∧ cap = 0) (hv : zs.all Lib.validRune = true) (hm : m ≤ maxLen) (hds : Dds w ad m ds) (hf : fewB ds = true) :
    Calls Try.prog 3 #[.slice a n cap, .slice ad m mc] w fun e w' => e = .returned (.bool true) ∧ Below w.heap.size w w' := by
  obtain ⟨i1, hi1, hy0, hy1, hy2⟩ := info_parts Try.info21
  have F := few ad m mc ds w hm hds
  rw [hf] at F
  have FF := Lib.hid F
  have hn' : ¬ (2500 : Int) < (n : Int) := by omega
  have HZ := Lib.hid hz
  have HN := Lib.hid hna
  have HV := Lib.hid hv
  have HD := Lib.hid hds
  have OF := Lib.hid (of_good a n cap zs w (by omega) hna hz hv)
  have hm40 : m ≤ 40 := by
    unfold fewB at hf
    rw [Bool.and_eq_true] at hf
    have := of_decide_eq_true hf.2
    have := hds.len
    omega
  have HS := Lib.hid (show ∀ d ∈ ds, d.n ≤ 2500 by
    unfold fewB at hf
    rw [Bool.and_eq_true] at hf
    intro d hd
    exact of_decide_eq_true (List.all_eq_true.1 hf.1 d hd))
  clear hds hm F hf hz hna hv
  go_enter Try.func3, Try.ntmps3
  go_wp2_with fail
  (with_reducible refine FF.out.mono ?_)
  rintro e w' ⟨rfl, rfl⟩
  go_wp2_with fail
  (with_reducible refine OF.out.mono ?_)
  rintro e w1 ⟨rb, ns, rfl, R1, t1, hrb, b1⟩
  have RR := refRightOf a n cap zs w1 (by omega) (HZ.out.below b1)
  rw [HV.out, if_pos rfl, if_neg (by omega)] at RR
  have RI := Lib.hid RR
  have B1 := Lib.hid b1
  have RP := Lib.hid R1
  have T1 := Lib.hid t1
  have IL := Lib.hid (show (ints zs).length = n by rw [ints_len, HZ.out.1])
  clear RR b1 R1 t1
  go_wp2_with fail
  (with_reducible refine RI.out.mono ?_)
  rintro e w' ⟨rfl, rfl⟩
  go_wp2_with (at_builtin; refine wpList_append_in _ rfl _ _ 22 rfl w1.heap.size 21 i1 _ 4 Try.underlying22 hi1 hy0 hy1 hy2 rfl _ 0 [] rfl (World.ownsRow_lit w1 #[] 0 (Nat.le_refl _) (by unfold maxLen; omega) rfl) a n cap (ints zs) rfl HN.out IL.out (seq_holds (HZ.out.below (B1.out.alloc B1.out.size _))) (ints_one _) (by unfold maxLen; omega) (by omega) (by simp) ?_)
  intro v2 w2 own2 gr2
  obtain ⟨a2, c2, rfl, tx2⟩ := own_txt own2 RP.out.lt
  have B12 := Lib.hid (show Below w1.heap.size w1 w2 from ((Below.refl _ _).alloc (Nat.le_refl _) _).grown gr2 (by simp) (fun k hk => by simp [Value.ownBlock] at hk; omega))
  have B2 := Lib.hid (B1.out.trans (B12.out.mono B1.out.size))
  have RP2 := Lib.hid (RP.out.below B12.out)
  have TX2 := Lib.hid tx2
  clear own2 gr2 tx2
  go_wp2_with fail
  go_loopw [7, 8] (fun v i wr => ∃ (k : Nat) (a : Option Addr) (n c : Nat) (ts : List Int) (ns : List Nd), k ≤ m ∧ i = .int .i64 k ∧ v = .slice a n c ∧ Txt wr rb a n c ts ∧ RopeAt wr rb ns ∧ text ns = ts ∧ Below w.heap.size w wr) (fun _ i _ => m - (intOf i).toNat)
  case atStart => exact ⟨0, a2, n, c2, zs, ns, Nat.zero_le _, rfl, rfl, TX2.out, RP2.out, T1.out, B2.out⟩
  case round =>
    obtain ⟨k, ta, nt, ct, ts, ns, hk, rfl, rfl, tx, hR, ht, hB⟩ := hrel
    have TX := Lib.hid tx
    have RQ := Lib.hid hR
    have TT := Lib.hid ht
    have BB := Lib.hid hB
    have hnt : nt ≤ 2000 := by have := hR.le; rw [ht, tx.seqb.1] at this; exact this
    have TL := Lib.hid tx.seqb.1
    have hwz := hB.size
    clear tx hR ht hB
    by_cases hlt : k < m
    · obtain ⟨d, hd⟩ : ∃ d, ds[k]? = some d := ⟨ds[k]'(by have := HD.out.len; omega), by simp⟩
      rcases HD.out.row with h0 | ⟨db, doff, rfl, hdb, hdc⟩
      · omega
      obtain ⟨d0, d1, d2, d3⟩ := hdc k d hd
      have e0 := (BB.out.cell (by exact hdb)).trans d0
      have e1 := (BB.out.cell (by exact hdb)).trans d1
      have e2 := (BB.out.cell (by exact hdb)).trans d2
      have e3 := (BB.out.cell (by exact hdb)).trans d3
      have DA := Lib.hid (HD.out.each d (List.mem_of_getElem? hd))
      have hdn := HS.out d (List.mem_of_getElem? hd)
      have hltz : (k : Int) < (m : Int) := by omega
      have hk0 : (0 : Int) ≤ (k : Int) := by omega
      obtain ⟨what, x, y, da, dn, dc, zd⟩ := d
      simp only at e0 e1 e2 e3 hdn
      clear d0 d1 d2 d3 hd hdc
      by_cases w0 : what = 0
      · as_aux_lemma =>
          subst w0
          go_wp2_with fail
          have R5 : (wr.alloc (Obj.cells #[Value.int IntKind.i64 0, Value.int IntKind.i64 x, Value.int IntKind.i64 y, Value.slice da dn dc] 32)).rowIs wr.heap.size 32 4 (nd4 (.int .i64 0) (.int .i64 x) (.int .i64 y) (.slice da dn dc)) := row4 wr _ _ _ _ 32
          have b5 : Below wr.heap.size wr (wr.alloc (Obj.cells #[Value.int IntKind.i64 0, Value.int IntKind.i64 x, Value.int IntKind.i64 y, Value.slice da dn dc] 32)) := (Below.refl _ _).alloc (Nat.le_refl _) _
          generalize (wr.alloc (Obj.cells #[Value.int IntKind.i64 0, Value.int IntKind.i64 x, Value.int IntKind.i64 y, Value.slice da dn dc] 32)) = W5 at *
          have RW := Lib.hid R5
          have B5 := Lib.hid (BB.out.trans (b5.mono hwz))
          have TX5 := Lib.hid (TX.out.below b5)
          have RQ5 := Lib.hid (RQ.out.below b5)
          have h5lt : wr.heap.size < W5.heap.size := R5.lt
          have DA5 := Lib.hid (DA.out.below B5.out)
          have tsl : ts.length ≤ 2000 := by have := TL.out; omega
          clear R5 b5
          obtain ⟨T, code, hE, hX⟩ := insert_both rb ns ts zd ta da nt ct dn dc x TT.out tsl DA.out.none hdn DA.out.seq.1
          have X5 := Lib.hid (hX W5 RQ5.out.lt TX5.out DA5.out.seq)
          have HE := Lib.hid hE
          clear hE hX
          (with_reducible refine X5.out.mono ?_)
          rintro e w6 ⟨a6, n6, c6, rfl, tx6, b6⟩
          have R6 := RW.out.of_block (b6.block _ h5lt)
          have r1 : w6.cell? ⟨wr.heap.size, 1, none⟩ = some (.int .i64 x) := R6.cell (by omega)
          have r3 : w6.cell? ⟨wr.heap.size, 3, none⟩ = some (.slice da dn dc) := R6.cell (by omega)
          have B6 := Lib.hid (B5.out.trans (b6.mono B5.out.size))
          have TX6 := Lib.hid tx6
          have E6 := Lib.hid (HE.out w6 (RQ5.out.below b6) (DA5.out.seq.below b6))
          clear tx6 b6 R6
          go_wp2_with fail
          (with_reducible refine E6.out.mono ?_)
          rintro e w7 ⟨ns7, rfl, r7, t7, b7, bu7⟩
          have B7 := Lib.hid (B6.out.trans (b7.mono hrb))
          have TX7 := Lib.hid (TX6.out.but bu7)
          have R7 := Lib.hid r7
          have T7 := Lib.hid t7
          have hn6 : n6 ≤ 2000 := by have h := r7.le; rw [t7, TX6.out.seqb.1] at h; exact h
          clear r7 t7 b7 bu7 r1 r3
          have LN := Lib.hid (show Calls Try.prog 22 #[.pointer (some ⟨rb, 0, none⟩)] w7 (fun e w' => e = .returned (.int .i64 n6) ∧ Below (w7).heap.size w7 w') by
            have h := len rb ns7 w7 R7.out
            rw [T7.out, TX7.out.seqb.1] at h
            exact h)
          obtain ⟨q, hq⟩ : ∃ q, q = brk T := ⟨_, rfl⟩
          have Q := Lib.hid hq
          have hq2 : q ≤ 2000 := by have := brk_le T; have := TX7.out.seqb.1; omega
          clear hq
          go_wp2_with fail
          (with_reducible refine LN.out.mono ?_)
          rintro e u8 ⟨rfl, b8⟩
          have BU8 := Lib.hid (B7.out.trans (b8.mono B7.out.size))
          have XU8 := Lib.hid (TX7.out.below b8)
          have RU8 := Lib.hid (R7.out.below b8)
          have LI := Lib.hid (show Calls Try.prog 23 #[.pointer (some ⟨rb, 0, none⟩)] u8 (fun e w' => e = .returned (.int .i64 (q + 1 : Nat)) ∧ Below u8.heap.size u8 w') by
            have h := lines rb ns7 u8 RU8.out
            rw [T7.out, ← Q.out] at h
            exact h)
          clear b8
          go_wp2_with fail
          (with_reducible refine LI.out.mono ?_)
          rintro e u9 ⟨rfl, b9⟩
          have BU9 := Lib.hid (BU8.out.trans (b9.mono BU8.out.size))
          have XU9 := Lib.hid (XU8.out.below b9)
          have RU9 := Lib.hid (RU8.out.below b9)
          have ST := Lib.hid (refStarts a6 n6 c6 T u9 hn6 XU9.out.seq)
          clear b9
          go_wp2_with fail
          (with_reducible refine ST.out.mono ?_)
          rintro e u10 ⟨sv, rfl, sown, b10⟩
          rw [← Q.out] at sown
          obtain ⟨sa, sc, rfl⟩ := own_form2 sown
          have BU10 := Lib.hid (BU9.out.trans (b10.mono BU9.out.size))
          have XU10 := Lib.hid (XU9.out.below b10)
          have RU10 := Lib.hid (RU9.out.below b10)
          clear b10 sown
          go_wp2
          go_roundw
          case rel => exact ⟨k + 1, a6, n6, c6, T, ns7, by omega, by go_num, rfl, XU10.out, RU10.out, T7.out, BU10.out⟩
          case measure => simp [intOf]; omega
      by_cases w1 : what = 1
      · as_aux_lemma =>
          subst w1
          go_wp2_with fail
          have R5 : (wr.alloc (Obj.cells #[Value.int IntKind.i64 1, Value.int IntKind.i64 x, Value.int IntKind.i64 y, Value.slice da dn dc] 32)).rowIs wr.heap.size 32 4 (nd4 (.int .i64 1) (.int .i64 x) (.int .i64 y) (.slice da dn dc)) := row4 wr _ _ _ _ 32
          have b5 : Below wr.heap.size wr (wr.alloc (Obj.cells #[Value.int IntKind.i64 1, Value.int IntKind.i64 x, Value.int IntKind.i64 y, Value.slice da dn dc] 32)) := (Below.refl _ _).alloc (Nat.le_refl _) _
          generalize (wr.alloc (Obj.cells #[Value.int IntKind.i64 1, Value.int IntKind.i64 x, Value.int IntKind.i64 y, Value.slice da dn dc] 32)) = W5 at *
          have RW := Lib.hid R5
          have B5 := Lib.hid (BB.out.trans (b5.mono hwz))
          have TX5 := Lib.hid (TX.out.below b5)
          have RQ5 := Lib.hid (RQ.out.below b5)
          have h5lt : wr.heap.size < W5.heap.size := R5.lt
          have DA5 := Lib.hid (DA.out.below B5.out)
          have tsl : ts.length ≤ 2000 := by have := TL.out; omega
          clear R5 b5
          obtain ⟨T, code, hE, hX⟩ := delete_both rb ns ts ta nt ct x y TT.out tsl
          have X5 := Lib.hid (hX W5 RQ5.out.lt TX5.out)
          have HE := Lib.hid hE
          clear hE hX
          (with_reducible refine X5.out.mono ?_)
          rintro e w6 ⟨a6, n6, c6, rfl, tx6, b6⟩
          have R6 := RW.out.of_block (b6.block _ h5lt)
          have r1 : w6.cell? ⟨wr.heap.size, 1, none⟩ = some (.int .i64 x) := R6.cell (by omega)
          have r2 : w6.cell? ⟨wr.heap.size, 2, none⟩ = some (.int .i64 y) := R6.cell (by omega)
          have B6 := Lib.hid (B5.out.trans (b6.mono B5.out.size))
          have TX6 := Lib.hid tx6
          have E6 := Lib.hid (HE.out w6 (RQ5.out.below b6))
          clear tx6 b6 R6
          go_wp2_with fail
          (with_reducible refine E6.out.mono ?_)
          rintro e w7 ⟨ns7, rfl, r7, t7, b7, bu7⟩
          have B7 := Lib.hid (B6.out.trans (b7.mono hrb))
          have TX7 := Lib.hid (TX6.out.but bu7)
          have R7 := Lib.hid r7
          have T7 := Lib.hid t7
          have hn6 : n6 ≤ 2000 := by have h := r7.le; rw [t7, TX6.out.seqb.1] at h; exact h
          clear r7 t7 b7 bu7 r1 r2
          have LN := Lib.hid (show Calls Try.prog 22 #[.pointer (some ⟨rb, 0, none⟩)] w7 (fun e w' => e = .returned (.int .i64 n6) ∧ Below (w7).heap.size w7 w') by
            have h := len rb ns7 w7 R7.out
            rw [T7.out, TX7.out.seqb.1] at h
            exact h)
          obtain ⟨q, hq⟩ : ∃ q, q = brk T := ⟨_, rfl⟩
          have Q := Lib.hid hq
          have hq2 : q ≤ 2000 := by have := brk_le T; have := TX7.out.seqb.1; omega
          clear hq
          go_wp2_with fail
          (with_reducible refine LN.out.mono ?_)
          rintro e u8 ⟨rfl, b8⟩
          have BU8 := Lib.hid (B7.out.trans (b8.mono B7.out.size))
          have XU8 := Lib.hid (TX7.out.below b8)
          have RU8 := Lib.hid (R7.out.below b8)
          have LI := Lib.hid (show Calls Try.prog 23 #[.pointer (some ⟨rb, 0, none⟩)] u8 (fun e w' => e = .returned (.int .i64 (q + 1 : Nat)) ∧ Below u8.heap.size u8 w') by
            have h := lines rb ns7 u8 RU8.out
            rw [T7.out, ← Q.out] at h
            exact h)
          clear b8
          go_wp2_with fail
          (with_reducible refine LI.out.mono ?_)
          rintro e u9 ⟨rfl, b9⟩
          have BU9 := Lib.hid (BU8.out.trans (b9.mono BU8.out.size))
          have XU9 := Lib.hid (XU8.out.below b9)
          have RU9 := Lib.hid (RU8.out.below b9)
          have ST := Lib.hid (refStarts a6 n6 c6 T u9 hn6 XU9.out.seq)
          clear b9
          go_wp2_with fail
          (with_reducible refine ST.out.mono ?_)
          rintro e u10 ⟨sv, rfl, sown, b10⟩
          rw [← Q.out] at sown
          obtain ⟨sa, sc, rfl⟩ := own_form2 sown
          have BU10 := Lib.hid (BU9.out.trans (b10.mono BU9.out.size))
          have XU10 := Lib.hid (XU9.out.below b10)
          have RU10 := Lib.hid (RU9.out.below b10)
          clear b10 sown
          go_wp2
          go_roundw
          case rel => exact ⟨k + 1, a6, n6, c6, T, ns7, by omega, by go_num, rfl, XU10.out, RU10.out, T7.out, BU10.out⟩
          case measure => simp [intOf]; omega
      by_cases w2 : what = 2
      · as_aux_lemma =>
          subst w2
          go_wp2_with fail
          have R5 : (wr.alloc (Obj.cells #[Value.int IntKind.i64 2, Value.int IntKind.i64 x, Value.int IntKind.i64 y, Value.slice da dn dc] 32)).rowIs wr.heap.size 32 4 (nd4 (.int .i64 2) (.int .i64 x) (.int .i64 y) (.slice da dn dc)) := row4 wr _ _ _ _ 32
          have b5 : Below wr.heap.size wr (wr.alloc (Obj.cells #[Value.int IntKind.i64 2, Value.int IntKind.i64 x, Value.int IntKind.i64 y, Value.slice da dn dc] 32)) := (Below.refl _ _).alloc (Nat.le_refl _) _
          generalize (wr.alloc (Obj.cells #[Value.int IntKind.i64 2, Value.int IntKind.i64 x, Value.int IntKind.i64 y, Value.slice da dn dc] 32)) = W5 at *
          have RW := Lib.hid R5
          have B5 := Lib.hid (BB.out.trans (b5.mono hwz))
          have TX5 := Lib.hid (TX.out.below b5)
          have RQ5 := Lib.hid (RQ.out.below b5)
          have h5lt : wr.heap.size < W5.heap.size := R5.lt
          have DA5 := Lib.hid (DA.out.below B5.out)
          have tsl : ts.length ≤ 2000 := by have := TL.out; omega
          clear R5 b5
          by_cases hb : 0 ≤ x ∧ x ≤ y ∧ y ≤ (ts.length : Int)
          · obtain ⟨p, rfl⟩ : ∃ p : Nat, x = p := ⟨x.toNat, by omega⟩
            obtain ⟨z, rfl⟩ : ∃ z : Nat, y = z := ⟨y.toNat, by omega⟩
            have hpz : p ≤ z := by omega
            have hzn : z ≤ nt := by have := TL.out; omega
            have SL := slice_yes rb ns p z W5 RQ5.out hpz (by rw [TT.out, TL.out]; exact hzn)
            rw [TT.out] at SL
            have SS := Lib.hid SL
            have BT := refBetween ta nt ct p z
            have hb' : (0 : Int) ≤ p ∧ (p : Int) ≤ z ∧ (z : Int) ≤ nt := by omega
            clear SL
            (with_reducible refine SS.out.mono ?_)
            rintro e w6 ⟨v, rfl, own, b6⟩
            rw [show ((ts.take z).drop p).length = z - p by have := TL.out; rw [List.length_drop, List.length_take]; omega] at own
            obtain ⟨sa, sc, rfl, hsc, sq⟩ := own_seq own
            have R6 := RW.out.of_block (b6.block _ h5lt)
            have r1 : w6.cell? ⟨wr.heap.size, 1, none⟩ = some (.int .i64 p) := R6.cell (by omega)
            have r2 : w6.cell? ⟨wr.heap.size, 2, none⟩ = some (.int .i64 z) := R6.cell (by omega)
            have B6 := Lib.hid (B5.out.trans (b6.mono B5.out.size))
            have TX6 := Lib.hid (TX5.out.below b6)
            have RQ6 := Lib.hid (RQ5.out.below b6)
            obtain ⟨ma, hms, hmq⟩ := seq_mid ta nt ct p z hpz hzn TX.out.le
            have SM := Lib.hid (same sa ma (z - p) sc (ct - p) ((ts.take z).drop p) w6 (by omega) sq (hmq _ _ _ TX6.out.seq))
            have BW := BT w6
            rw [decide_eq_true hb'] at BW
            have BX := Lib.hid BW
            clear BT BW hmq own sq b6 R6 hb hb'
            go_wp2_with fail
            (with_reducible refine BX.out.mono ?_)
            rintro e w' ⟨rfl, rfl⟩
            go_wp2_with fail
            (with_reducible refine SM.out.mono ?_)
            rintro e w7 ⟨rfl, b7⟩
            have B7 := Lib.hid (B6.out.trans (b7.mono B6.out.size))
            have TX7 := Lib.hid (TX6.out.below b7)
            have RQ7 := Lib.hid (RQ6.out.below b7)
            clear b7 r1 r2 hms
            have LN := Lib.hid (show Calls Try.prog 22 #[.pointer (some ⟨rb, 0, none⟩)] w7 (fun e w' => e = .returned (.int .i64 nt) ∧ Below (w7).heap.size w7 w') by
              have h := len rb ns w7 RQ7.out
              rw [TT.out, TX7.out.seqb.1] at h
              exact h)
            obtain ⟨q, hq⟩ : ∃ q, q = brk ts := ⟨_, rfl⟩
            have Q := Lib.hid hq
            have hq2 : q ≤ 2000 := by have := brk_le ts; have := TX7.out.seqb.1; omega
            clear hq
            go_wp2_with fail
            (with_reducible refine LN.out.mono ?_)
            rintro e u8 ⟨rfl, b8⟩
            have BU8 := Lib.hid (B7.out.trans (b8.mono B7.out.size))
            have XU8 := Lib.hid (TX7.out.below b8)
            have RU8 := Lib.hid (RQ7.out.below b8)
            have LI := Lib.hid (show Calls Try.prog 23 #[.pointer (some ⟨rb, 0, none⟩)] u8 (fun e w' => e = .returned (.int .i64 (q + 1 : Nat)) ∧ Below u8.heap.size u8 w') by
              have h := lines rb ns u8 RU8.out
              rw [TT.out, ← Q.out] at h
              exact h)
            clear b8
            go_wp2_with fail
            (with_reducible refine LI.out.mono ?_)
            rintro e u9 ⟨rfl, b9⟩
            have BU9 := Lib.hid (BU8.out.trans (b9.mono BU8.out.size))
            have XU9 := Lib.hid (XU8.out.below b9)
            have RU9 := Lib.hid (RU8.out.below b9)
            have ST := Lib.hid (refStarts ta nt ct ts u9 hnt XU9.out.seq)
            clear b9
            go_wp2_with fail
            (with_reducible refine ST.out.mono ?_)
            rintro e u10 ⟨sv, rfl, sown, b10⟩
            rw [← Q.out] at sown
            obtain ⟨sa, sc, rfl⟩ := own_form2 sown
            have BU10 := Lib.hid (BU9.out.trans (b10.mono BU9.out.size))
            have XU10 := Lib.hid (XU9.out.below b10)
            have RU10 := Lib.hid (RU9.out.below b10)
            clear b10 sown
            go_wp2
            go_roundw
            case rel => exact ⟨k + 1, ta, nt, ct, ts, ns, by omega, by go_num, rfl, XU10.out, RU10.out, TT.out, BU10.out⟩
            case measure => simp [intOf]; omega
          · have SS := Lib.hid (slice_no rb ns x y W5 RQ5.out (by rw [TT.out]; exact hb))
            have BT := refBetween ta nt ct x y
            have hb' : ¬ (0 ≤ x ∧ x ≤ y ∧ y ≤ (nt : Int)) := by have := TL.out; omega
            (with_reducible refine SS.out.mono ?_)
            rintro e w6 ⟨rfl, b6⟩
            have R6 := RW.out.of_block (b6.block _ h5lt)
            have r1 : w6.cell? ⟨wr.heap.size, 1, none⟩ = some (.int .i64 x) := R6.cell (by omega)
            have r2 : w6.cell? ⟨wr.heap.size, 2, none⟩ = some (.int .i64 y) := R6.cell (by omega)
            have B6 := Lib.hid (B5.out.trans (b6.mono B5.out.size))
            have TX6 := Lib.hid (TX5.out.below b6)
            have RQ6 := Lib.hid (RQ5.out.below b6)
            have BW := BT w6
            rw [decide_eq_false hb'] at BW
            have BX := Lib.hid BW
            clear BT BW b6 R6 hb hb'
            go_wp2_with fail
            (with_reducible refine BX.out.mono ?_)
            rintro e w' ⟨rfl, rfl⟩
            clear r1 r2
            have LN := Lib.hid (show Calls Try.prog 22 #[.pointer (some ⟨rb, 0, none⟩)] w6 (fun e w' => e = .returned (.int .i64 nt) ∧ Below (w6).heap.size w6 w') by
              have h := len rb ns w6 RQ6.out
              rw [TT.out, TX6.out.seqb.1] at h
              exact h)
            obtain ⟨q, hq⟩ : ∃ q, q = brk ts := ⟨_, rfl⟩
            have Q := Lib.hid hq
            have hq2 : q ≤ 2000 := by have := brk_le ts; have := TX6.out.seqb.1; omega
            clear hq
            go_wp2_with fail
            (with_reducible refine LN.out.mono ?_)
            rintro e u8 ⟨rfl, b8⟩
            have BU8 := Lib.hid (B6.out.trans (b8.mono B6.out.size))
            have XU8 := Lib.hid (TX6.out.below b8)
            have RU8 := Lib.hid (RQ6.out.below b8)
            have LI := Lib.hid (show Calls Try.prog 23 #[.pointer (some ⟨rb, 0, none⟩)] u8 (fun e w' => e = .returned (.int .i64 (q + 1 : Nat)) ∧ Below u8.heap.size u8 w') by
              have h := lines rb ns u8 RU8.out
              rw [TT.out, ← Q.out] at h
              exact h)
            clear b8
            go_wp2_with fail
            (with_reducible refine LI.out.mono ?_)
            rintro e u9 ⟨rfl, b9⟩
            have BU9 := Lib.hid (BU8.out.trans (b9.mono BU8.out.size))
            have XU9 := Lib.hid (XU8.out.below b9)
            have RU9 := Lib.hid (RU8.out.below b9)
            have ST := Lib.hid (refStarts ta nt ct ts u9 hnt XU9.out.seq)
            clear b9
            go_wp2_with fail
            (with_reducible refine ST.out.mono ?_)
            rintro e u10 ⟨sv, rfl, sown, b10⟩
            rw [← Q.out] at sown
            obtain ⟨sa, sc, rfl⟩ := own_form2 sown
            have BU10 := Lib.hid (BU9.out.trans (b10.mono BU9.out.size))
            have XU10 := Lib.hid (XU9.out.below b10)
            have RU10 := Lib.hid (RU9.out.below b10)
            clear b10 sown
            go_wp2
            go_roundw
            case rel => exact ⟨k + 1, ta, nt, ct, ts, ns, by omega, by go_num, rfl, XU10.out, RU10.out, TT.out, BU10.out⟩
            case measure => simp [intOf]; omega
      by_cases w3 : what = 3
      · as_aux_lemma =>
          subst w3
          go_wp2_with fail
          have R5 : (wr.alloc (Obj.cells #[Value.int IntKind.i64 3, Value.int IntKind.i64 x, Value.int IntKind.i64 y, Value.slice da dn dc] 32)).rowIs wr.heap.size 32 4 (nd4 (.int .i64 3) (.int .i64 x) (.int .i64 y) (.slice da dn dc)) := row4 wr _ _ _ _ 32
          have b5 : Below wr.heap.size wr (wr.alloc (Obj.cells #[Value.int IntKind.i64 3, Value.int IntKind.i64 x, Value.int IntKind.i64 y, Value.slice da dn dc] 32)) := (Below.refl _ _).alloc (Nat.le_refl _) _
          generalize (wr.alloc (Obj.cells #[Value.int IntKind.i64 3, Value.int IntKind.i64 x, Value.int IntKind.i64 y, Value.slice da dn dc] 32)) = W5 at *
          have RW := Lib.hid R5
          have B5 := Lib.hid (BB.out.trans (b5.mono hwz))
          have TX5 := Lib.hid (TX.out.below b5)
          have RQ5 := Lib.hid (RQ.out.below b5)
          have h5lt : wr.heap.size < W5.heap.size := R5.lt
          have DA5 := Lib.hid (DA.out.below B5.out)
          have tsl : ts.length ≤ 2000 := by have := TL.out; omega
          clear R5 b5
          by_cases hb : 0 ≤ x ∧ x ≤ (ts.length : Int)
          · obtain ⟨p, rfl⟩ : ∃ p : Nat, x = p := ⟨x.toNat, by omega⟩
            have hpn : p ≤ nt := by have := TL.out; omega
            have hp0 : ¬ (p : Int) < 0 := by omega
            have hp1 : ¬ (nt : Int) < (p : Int) := by omega
            have L3 := line_yes rb ns p W5 RQ5.out (by rw [TT.out, TL.out]; exact hpn)
            have L4 := fun w (h : RopeAt w rb ns) => bytes_yes rb ns p w h (by rw [TT.out, TL.out]; exact hpn)
            rw [TT.out] at L3
            rw [TT.out] at L4
            have L5 := fun w (h : SeqAt .i32 w ta nt ts) => refLine ta nt ct p ts w hpn hnt h
            have L6 := fun w (h : SeqAt .i32 w ta nt ts) => refBytes ta nt ct p ts w hpn TX.out.le hnt h
            obtain ⟨lq, hlq⟩ : ∃ q, q = brk (ts.take p) := ⟨_, rfl⟩
            obtain ⟨lb, hlb⟩ : ∃ q, q = (encCells (ts.take p)).length := ⟨_, rfl⟩
            rw [← hlq] at L3 L5
            rw [← hlb] at L4 L6
            have SS := Lib.hid L3
            have SB := Lib.hid L4
            have SL := Lib.hid L5
            have SE := Lib.hid L6
            clear L3 L4 L5 L6 hlq hlb hb
            (with_reducible refine SS.out.mono ?_)
            rintro e w6 ⟨rfl, b6⟩
            have R6 := RW.out.of_block (b6.block _ h5lt)
            have r1 : w6.cell? ⟨wr.heap.size, 1, none⟩ = some (.int .i64 p) := R6.cell (by omega)
            have B6 := Lib.hid (B5.out.trans (b6.mono B5.out.size))
            have TX6 := Lib.hid (TX5.out.below b6)
            have RQ6 := Lib.hid (RQ5.out.below b6)
            have RW6 := Lib.hid R6
            have h6lt : wr.heap.size < w6.heap.size := R6.lt
            have SC := Lib.hid (SB.out w6 RQ6.out)
            clear b6 R6
            go_wp2_with fail
            (with_reducible refine SC.out.mono ?_)
            rintro e w7 ⟨rfl, b7⟩
            have R7 := RW6.out.of_block (b7.block _ h6lt)
            have r1' : w7.cell? ⟨wr.heap.size, 1, none⟩ = some (.int .i64 p) := R7.cell (by omega)
            have B7 := Lib.hid (B6.out.trans (b7.mono B6.out.size))
            have TX7 := Lib.hid (TX6.out.below b7)
            have RQ7 := Lib.hid (RQ6.out.below b7)
            have SL7 := Lib.hid (SL.out w7 TX7.out.seq)
            have SE7 := Lib.hid (SE.out w7 TX7.out.seq)
            clear b7 R7 r1
            go_wp2_with fail
            (with_reducible refine SL7.out.mono ?_)
            rintro e w' ⟨rfl, rfl⟩
            go_wp2_with fail
            (with_reducible refine SE7.out.mono ?_)
            rintro e wE ⟨rfl, bE⟩
            have BE := Lib.hid (B7.out.trans (bE.mono B7.out.size))
            have TXE := Lib.hid (TX7.out.below bE)
            have RQE := Lib.hid (RQ7.out.below bE)
            clear bE r1'
            have LN := Lib.hid (show Calls Try.prog 22 #[.pointer (some ⟨rb, 0, none⟩)] wE (fun e w' => e = .returned (.int .i64 nt) ∧ Below (wE).heap.size wE w') by
              have h := len rb ns wE RQE.out
              rw [TT.out, TXE.out.seqb.1] at h
              exact h)
            obtain ⟨q, hq⟩ : ∃ q, q = brk ts := ⟨_, rfl⟩
            have Q := Lib.hid hq
            have hq2 : q ≤ 2000 := by have := brk_le ts; have := TXE.out.seqb.1; omega
            clear hq
            go_wp2_with fail
            (with_reducible refine LN.out.mono ?_)
            rintro e u8 ⟨rfl, b8⟩
            have BU8 := Lib.hid (BE.out.trans (b8.mono BE.out.size))
            have XU8 := Lib.hid (TXE.out.below b8)
            have RU8 := Lib.hid (RQE.out.below b8)
            have LI := Lib.hid (show Calls Try.prog 23 #[.pointer (some ⟨rb, 0, none⟩)] u8 (fun e w' => e = .returned (.int .i64 (q + 1 : Nat)) ∧ Below u8.heap.size u8 w') by
              have h := lines rb ns u8 RU8.out
              rw [TT.out, ← Q.out] at h
              exact h)
            clear b8
            go_wp2_with fail
            (with_reducible refine LI.out.mono ?_)
            rintro e u9 ⟨rfl, b9⟩
            have BU9 := Lib.hid (BU8.out.trans (b9.mono BU8.out.size))
            have XU9 := Lib.hid (XU8.out.below b9)
            have RU9 := Lib.hid (RU8.out.below b9)
            have ST := Lib.hid (refStarts ta nt ct ts u9 hnt XU9.out.seq)
            clear b9
            go_wp2_with fail
            (with_reducible refine ST.out.mono ?_)
            rintro e u10 ⟨sv, rfl, sown, b10⟩
            rw [← Q.out] at sown
            obtain ⟨sa, sc, rfl⟩ := own_form2 sown
            have BU10 := Lib.hid (BU9.out.trans (b10.mono BU9.out.size))
            have XU10 := Lib.hid (XU9.out.below b10)
            have RU10 := Lib.hid (RU9.out.below b10)
            clear b10 sown
            go_wp2
            go_roundw
            case rel => exact ⟨k + 1, ta, nt, ct, ts, ns, by omega, by go_num, rfl, XU10.out, RU10.out, TT.out, BU10.out⟩
            case measure => simp [intOf]; omega
          · have L3 := line_no rb ns x W5 RQ5.out (by rw [TT.out]; exact hb)
            have L4 := fun w (h : RopeAt w rb ns) => bytes_no rb ns x w h (by rw [TT.out]; exact hb)
            by_cases hx0 : x < 0
            · clear hb
              have SS := Lib.hid L3
              have SB := Lib.hid L4
              clear L3 L4
              (with_reducible refine SS.out.mono ?_)
              rintro e w6 ⟨rfl, b6⟩
              have R6 := RW.out.of_block (b6.block _ h5lt)
              have r1 : w6.cell? ⟨wr.heap.size, 1, none⟩ = some (.int .i64 x) := R6.cell (by omega)
              have B6 := Lib.hid (B5.out.trans (b6.mono B5.out.size))
              have TX6 := Lib.hid (TX5.out.below b6)
              have RQ6 := Lib.hid (RQ5.out.below b6)
              have RW6 := Lib.hid R6
              have h6lt : wr.heap.size < w6.heap.size := R6.lt
              have SC := Lib.hid (SB.out w6 RQ6.out)
              clear b6 R6
              go_wp2_with fail
              (with_reducible refine SC.out.mono ?_)
              rintro e w7 ⟨rfl, b7⟩
              have R7 := RW6.out.of_block (b7.block _ h6lt)
              have r1' : w7.cell? ⟨wr.heap.size, 1, none⟩ = some (.int .i64 x) := R7.cell (by omega)
              have B7 := Lib.hid (B6.out.trans (b7.mono B6.out.size))
              have TX7 := Lib.hid (TX6.out.below b7)
              have RQ7 := Lib.hid (RQ6.out.below b7)
              clear b7 R7 r1
              have LN := Lib.hid (show Calls Try.prog 22 #[.pointer (some ⟨rb, 0, none⟩)] w7 (fun e w' => e = .returned (.int .i64 nt) ∧ Below (w7).heap.size w7 w') by
                have h := len rb ns w7 RQ7.out
                rw [TT.out, TX7.out.seqb.1] at h
                exact h)
              obtain ⟨q, hq⟩ : ∃ q, q = brk ts := ⟨_, rfl⟩
              have Q := Lib.hid hq
              have hq2 : q ≤ 2000 := by have := brk_le ts; have := TX7.out.seqb.1; omega
              clear hq
              go_wp2_with fail
              (with_reducible refine LN.out.mono ?_)
              rintro e u8 ⟨rfl, b8⟩
              have BU8 := Lib.hid (B7.out.trans (b8.mono B7.out.size))
              have XU8 := Lib.hid (TX7.out.below b8)
              have RU8 := Lib.hid (RQ7.out.below b8)
              have LI := Lib.hid (show Calls Try.prog 23 #[.pointer (some ⟨rb, 0, none⟩)] u8 (fun e w' => e = .returned (.int .i64 (q + 1 : Nat)) ∧ Below u8.heap.size u8 w') by
                have h := lines rb ns u8 RU8.out
                rw [TT.out, ← Q.out] at h
                exact h)
              clear b8
              go_wp2_with fail
              (with_reducible refine LI.out.mono ?_)
              rintro e u9 ⟨rfl, b9⟩
              have BU9 := Lib.hid (BU8.out.trans (b9.mono BU8.out.size))
              have XU9 := Lib.hid (XU8.out.below b9)
              have RU9 := Lib.hid (RU8.out.below b9)
              have ST := Lib.hid (refStarts ta nt ct ts u9 hnt XU9.out.seq)
              clear b9
              go_wp2_with fail
              (with_reducible refine ST.out.mono ?_)
              rintro e u10 ⟨sv, rfl, sown, b10⟩
              rw [← Q.out] at sown
              obtain ⟨sa, sc, rfl⟩ := own_form2 sown
              have BU10 := Lib.hid (BU9.out.trans (b10.mono BU9.out.size))
              have XU10 := Lib.hid (XU9.out.below b10)
              have RU10 := Lib.hid (RU9.out.below b10)
              clear b10 sown
              go_wp2
              go_roundw
              case rel => exact ⟨k + 1, ta, nt, ct, ts, ns, by omega, by go_num, rfl, XU10.out, RU10.out, TT.out, BU10.out⟩
              case measure => simp [intOf]; omega
            · have hx1 : (nt : Int) < x := by have := TL.out; omega
              clear hb
              have SS := Lib.hid L3
              have SB := Lib.hid L4
              clear L3 L4
              (with_reducible refine SS.out.mono ?_)
              rintro e w6 ⟨rfl, b6⟩
              have R6 := RW.out.of_block (b6.block _ h5lt)
              have r1 : w6.cell? ⟨wr.heap.size, 1, none⟩ = some (.int .i64 x) := R6.cell (by omega)
              have B6 := Lib.hid (B5.out.trans (b6.mono B5.out.size))
              have TX6 := Lib.hid (TX5.out.below b6)
              have RQ6 := Lib.hid (RQ5.out.below b6)
              have RW6 := Lib.hid R6
              have h6lt : wr.heap.size < w6.heap.size := R6.lt
              have SC := Lib.hid (SB.out w6 RQ6.out)
              clear b6 R6
              go_wp2_with fail
              (with_reducible refine SC.out.mono ?_)
              rintro e w7 ⟨rfl, b7⟩
              have R7 := RW6.out.of_block (b7.block _ h6lt)
              have r1' : w7.cell? ⟨wr.heap.size, 1, none⟩ = some (.int .i64 x) := R7.cell (by omega)
              have B7 := Lib.hid (B6.out.trans (b7.mono B6.out.size))
              have TX7 := Lib.hid (TX6.out.below b7)
              have RQ7 := Lib.hid (RQ6.out.below b7)
              clear b7 R7 r1
              have LN := Lib.hid (show Calls Try.prog 22 #[.pointer (some ⟨rb, 0, none⟩)] w7 (fun e w' => e = .returned (.int .i64 nt) ∧ Below (w7).heap.size w7 w') by
                have h := len rb ns w7 RQ7.out
                rw [TT.out, TX7.out.seqb.1] at h
                exact h)
              obtain ⟨q, hq⟩ : ∃ q, q = brk ts := ⟨_, rfl⟩
              have Q := Lib.hid hq
              have hq2 : q ≤ 2000 := by have := brk_le ts; have := TX7.out.seqb.1; omega
              clear hq
              go_wp2_with fail
              (with_reducible refine LN.out.mono ?_)
              rintro e u8 ⟨rfl, b8⟩
              have BU8 := Lib.hid (B7.out.trans (b8.mono B7.out.size))
              have XU8 := Lib.hid (TX7.out.below b8)
              have RU8 := Lib.hid (RQ7.out.below b8)
              have LI := Lib.hid (show Calls Try.prog 23 #[.pointer (some ⟨rb, 0, none⟩)] u8 (fun e w' => e = .returned (.int .i64 (q + 1 : Nat)) ∧ Below u8.heap.size u8 w') by
                have h := lines rb ns u8 RU8.out
                rw [TT.out, ← Q.out] at h
                exact h)
              clear b8
              go_wp2_with fail
              (with_reducible refine LI.out.mono ?_)
              rintro e u9 ⟨rfl, b9⟩
              have BU9 := Lib.hid (BU8.out.trans (b9.mono BU8.out.size))
              have XU9 := Lib.hid (XU8.out.below b9)
              have RU9 := Lib.hid (RU8.out.below b9)
              have ST := Lib.hid (refStarts ta nt ct ts u9 hnt XU9.out.seq)
              clear b9
              go_wp2_with fail
              (with_reducible refine ST.out.mono ?_)
              rintro e u10 ⟨sv, rfl, sown, b10⟩
              rw [← Q.out] at sown
              obtain ⟨sa, sc, rfl⟩ := own_form2 sown
              have BU10 := Lib.hid (BU9.out.trans (b10.mono BU9.out.size))
              have XU10 := Lib.hid (XU9.out.below b10)
              have RU10 := Lib.hid (RU9.out.below b10)
              clear b10 sown
              go_wp2
              go_roundw
              case rel => exact ⟨k + 1, ta, nt, ct, ts, ns, by omega, by go_num, rfl, XU10.out, RU10.out, TT.out, BU10.out⟩
              case measure => simp [intOf]; omega
      by_cases w4 : what = 4
      · as_aux_lemma =>
          subst w4
          go_wp2_with fail
          have R5 : (wr.alloc (Obj.cells #[Value.int IntKind.i64 4, Value.int IntKind.i64 x, Value.int IntKind.i64 y, Value.slice da dn dc] 32)).rowIs wr.heap.size 32 4 (nd4 (.int .i64 4) (.int .i64 x) (.int .i64 y) (.slice da dn dc)) := row4 wr _ _ _ _ 32
          have b5 : Below wr.heap.size wr (wr.alloc (Obj.cells #[Value.int IntKind.i64 4, Value.int IntKind.i64 x, Value.int IntKind.i64 y, Value.slice da dn dc] 32)) := (Below.refl _ _).alloc (Nat.le_refl _) _
          generalize (wr.alloc (Obj.cells #[Value.int IntKind.i64 4, Value.int IntKind.i64 x, Value.int IntKind.i64 y, Value.slice da dn dc] 32)) = W5 at *
          have RW := Lib.hid R5
          have B5 := Lib.hid (BB.out.trans (b5.mono hwz))
          have TX5 := Lib.hid (TX.out.below b5)
          have RQ5 := Lib.hid (RQ.out.below b5)
          have h5lt : wr.heap.size < W5.heap.size := R5.lt
          have DA5 := Lib.hid (DA.out.below B5.out)
          have tsl : ts.length ≤ 2000 := by have := TL.out; omega
          clear R5 b5
          obtain ⟨qb, hqb⟩ : ∃ q, q = brk ts := ⟨_, rfl⟩
          have QB := Lib.hid hqb
          have hqb2 : qb ≤ 2000 := by have := brk_le ts; omega
          clear hqb
          by_cases hb : 0 ≤ x ∧ x ≤ (qb : Int)
          · obtain ⟨p, rfl⟩ : ∃ p : Nat, x = p := ⟨x.toNat, by omega⟩
            have hpq : p ≤ qb := by omega
            have hp0 : ¬ (p : Int) < 0 := by omega
            have hp0' : (0 : Int) ≤ (p : Int) := by omega
            have hp1 : ¬ (qb : Int) + 1 ≤ (p : Int) := by omega
            have hp2 : (p : Int) < (qb : Int) + 1 := by omega
            have L3 := start_yes rb ns p W5 RQ5.out (by rw [TT.out, ← QB.out]; exact hpq)
            rw [TT.out] at L3
            obtain ⟨bh, hbh⟩ : ∃ q, q = beh ts p := ⟨_, rfl⟩
            rw [← hbh] at L3
            have BH := Lib.hid hbh
            have SS := Lib.hid L3
            clear L3 hbh hb
            (with_reducible refine SS.out.mono ?_)
            rintro e w6 ⟨rfl, b6⟩
            have R6 := RW.out.of_block (b6.block _ h5lt)
            have B6 := Lib.hid (B5.out.trans (b6.mono B5.out.size))
            have TX6 := Lib.hid (TX5.out.below b6)
            have RQ6 := Lib.hid (RQ5.out.below b6)
            have RW6 := Lib.hid R6
            have h6lt : wr.heap.size < w6.heap.size := R6.lt
            have ST6 := Lib.hid (refStarts ta nt ct ts w6 hnt TX6.out.seq)
            clear b6 R6
            go_wp2_with fail
            (with_reducible refine ST6.out.mono ?_)
            rintro e w7 ⟨sv, rfl, sown, b7⟩
            obtain ⟨sg, sc, rfl, scell⟩ := own_starts sown p (by rw [← QB.out]; exact hpq)
            rw [← BH.out] at scell
            rw [← QB.out]
            have R7 := RW6.out.of_block (b7.block _ h6lt)
            have r1 : w7.cell? ⟨wr.heap.size, 1, none⟩ = some (.int .i64 p) := R7.cell (by omega)
            have B7 := Lib.hid (B6.out.trans (b7.mono B6.out.size))
            have TX7 := Lib.hid (TX6.out.below b7)
            have RQ7 := Lib.hid (RQ6.out.below b7)
            clear b7 R7 sown
            have LN := Lib.hid (show Calls Try.prog 22 #[.pointer (some ⟨rb, 0, none⟩)] w7 (fun e w' => e = .returned (.int .i64 nt) ∧ Below (w7).heap.size w7 w') by
              have h := len rb ns w7 RQ7.out
              rw [TT.out, TX7.out.seqb.1] at h
              exact h)
            obtain ⟨q, hq⟩ : ∃ q, q = brk ts := ⟨_, rfl⟩
            have Q := Lib.hid hq
            have hq2 : q ≤ 2000 := by have := brk_le ts; have := TX7.out.seqb.1; omega
            clear hq
            go_wp2_with fail
            (with_reducible refine LN.out.mono ?_)
            rintro e u8 ⟨rfl, b8⟩
            have BU8 := Lib.hid (B7.out.trans (b8.mono B7.out.size))
            have XU8 := Lib.hid (TX7.out.below b8)
            have RU8 := Lib.hid (RQ7.out.below b8)
            have LI := Lib.hid (show Calls Try.prog 23 #[.pointer (some ⟨rb, 0, none⟩)] u8 (fun e w' => e = .returned (.int .i64 (q + 1 : Nat)) ∧ Below u8.heap.size u8 w') by
              have h := lines rb ns u8 RU8.out
              rw [TT.out, ← Q.out] at h
              exact h)
            clear b8
            go_wp2_with fail
            (with_reducible refine LI.out.mono ?_)
            rintro e u9 ⟨rfl, b9⟩
            have BU9 := Lib.hid (BU8.out.trans (b9.mono BU8.out.size))
            have XU9 := Lib.hid (XU8.out.below b9)
            have RU9 := Lib.hid (RU8.out.below b9)
            have ST := Lib.hid (refStarts ta nt ct ts u9 hnt XU9.out.seq)
            clear b9
            go_wp2_with fail
            (with_reducible refine ST.out.mono ?_)
            rintro e u10 ⟨sv, rfl, sown, b10⟩
            rw [← Q.out] at sown
            obtain ⟨sa, sc, rfl⟩ := own_form2 sown
            have BU10 := Lib.hid (BU9.out.trans (b10.mono BU9.out.size))
            have XU10 := Lib.hid (XU9.out.below b10)
            have RU10 := Lib.hid (RU9.out.below b10)
            clear b10 sown
            go_wp2
            go_roundw
            case rel => exact ⟨k + 1, ta, nt, ct, ts, ns, by omega, by go_num, rfl, XU10.out, RU10.out, TT.out, BU10.out⟩
            case measure => simp [intOf]; omega
          · have L3 := start_no rb ns x W5 RQ5.out (by rw [TT.out, ← QB.out]; exact hb)
            by_cases hx0 : x < 0
            · clear hb
              have SS := Lib.hid L3
              clear L3
              (with_reducible refine SS.out.mono ?_)
              rintro e w6 ⟨rfl, b6⟩
              have R6 := RW.out.of_block (b6.block _ h5lt)
              have B6 := Lib.hid (B5.out.trans (b6.mono B5.out.size))
              have TX6 := Lib.hid (TX5.out.below b6)
              have RQ6 := Lib.hid (RQ5.out.below b6)
              have RW6 := Lib.hid R6
              have h6lt : wr.heap.size < w6.heap.size := R6.lt
              have ST6 := Lib.hid (refStarts ta nt ct ts w6 hnt TX6.out.seq)
              clear b6 R6
              go_wp2_with fail
              (with_reducible refine ST6.out.mono ?_)
              rintro e w7 ⟨sv, rfl, sown, b7⟩
              rw [← QB.out] at sown
              obtain ⟨sa, sc, rfl⟩ := own_form2 sown
              have R7 := RW6.out.of_block (b7.block _ h6lt)
              have r1 : w7.cell? ⟨wr.heap.size, 1, none⟩ = some (.int .i64 x) := R7.cell (by omega)
              have B7 := Lib.hid (B6.out.trans (b7.mono B6.out.size))
              have TX7 := Lib.hid (TX6.out.below b7)
              have RQ7 := Lib.hid (RQ6.out.below b7)
              clear b7 R7 sown
              have LN := Lib.hid (show Calls Try.prog 22 #[.pointer (some ⟨rb, 0, none⟩)] w7 (fun e w' => e = .returned (.int .i64 nt) ∧ Below (w7).heap.size w7 w') by
                have h := len rb ns w7 RQ7.out
                rw [TT.out, TX7.out.seqb.1] at h
                exact h)
              obtain ⟨q, hq⟩ : ∃ q, q = brk ts := ⟨_, rfl⟩
              have Q := Lib.hid hq
              have hq2 : q ≤ 2000 := by have := brk_le ts; have := TX7.out.seqb.1; omega
              clear hq
              go_wp2_with fail
              (with_reducible refine LN.out.mono ?_)
              rintro e u8 ⟨rfl, b8⟩
              have BU8 := Lib.hid (B7.out.trans (b8.mono B7.out.size))
              have XU8 := Lib.hid (TX7.out.below b8)
              have RU8 := Lib.hid (RQ7.out.below b8)
              have LI := Lib.hid (show Calls Try.prog 23 #[.pointer (some ⟨rb, 0, none⟩)] u8 (fun e w' => e = .returned (.int .i64 (q + 1 : Nat)) ∧ Below u8.heap.size u8 w') by
                have h := lines rb ns u8 RU8.out
                rw [TT.out, ← Q.out] at h
                exact h)
              clear b8
              go_wp2_with fail
              (with_reducible refine LI.out.mono ?_)
              rintro e u9 ⟨rfl, b9⟩
              have BU9 := Lib.hid (BU8.out.trans (b9.mono BU8.out.size))
              have XU9 := Lib.hid (XU8.out.below b9)
              have RU9 := Lib.hid (RU8.out.below b9)
              have ST := Lib.hid (refStarts ta nt ct ts u9 hnt XU9.out.seq)
              clear b9
              go_wp2_with fail
              (with_reducible refine ST.out.mono ?_)
              rintro e u10 ⟨sv, rfl, sown, b10⟩
              rw [← Q.out] at sown
              obtain ⟨sa, sc, rfl⟩ := own_form2 sown
              have BU10 := Lib.hid (BU9.out.trans (b10.mono BU9.out.size))
              have XU10 := Lib.hid (XU9.out.below b10)
              have RU10 := Lib.hid (RU9.out.below b10)
              clear b10 sown
              go_wp2
              go_roundw
              case rel => exact ⟨k + 1, ta, nt, ct, ts, ns, by omega, by go_num, rfl, XU10.out, RU10.out, TT.out, BU10.out⟩
              case measure => simp [intOf]; omega
            · have hx1 : (qb : Int) + 1 ≤ x := by omega
              clear hb
              have SS := Lib.hid L3
              clear L3
              (with_reducible refine SS.out.mono ?_)
              rintro e w6 ⟨rfl, b6⟩
              have R6 := RW.out.of_block (b6.block _ h5lt)
              have B6 := Lib.hid (B5.out.trans (b6.mono B5.out.size))
              have TX6 := Lib.hid (TX5.out.below b6)
              have RQ6 := Lib.hid (RQ5.out.below b6)
              have RW6 := Lib.hid R6
              have h6lt : wr.heap.size < w6.heap.size := R6.lt
              have ST6 := Lib.hid (refStarts ta nt ct ts w6 hnt TX6.out.seq)
              clear b6 R6
              go_wp2_with fail
              (with_reducible refine ST6.out.mono ?_)
              rintro e w7 ⟨sv, rfl, sown, b7⟩
              rw [← QB.out] at sown
              obtain ⟨sa, sc, rfl⟩ := own_form2 sown
              have R7 := RW6.out.of_block (b7.block _ h6lt)
              have r1 : w7.cell? ⟨wr.heap.size, 1, none⟩ = some (.int .i64 x) := R7.cell (by omega)
              have B7 := Lib.hid (B6.out.trans (b7.mono B6.out.size))
              have TX7 := Lib.hid (TX6.out.below b7)
              have RQ7 := Lib.hid (RQ6.out.below b7)
              clear b7 R7 sown
              have LN := Lib.hid (show Calls Try.prog 22 #[.pointer (some ⟨rb, 0, none⟩)] w7 (fun e w' => e = .returned (.int .i64 nt) ∧ Below (w7).heap.size w7 w') by
                have h := len rb ns w7 RQ7.out
                rw [TT.out, TX7.out.seqb.1] at h
                exact h)
              obtain ⟨q, hq⟩ : ∃ q, q = brk ts := ⟨_, rfl⟩
              have Q := Lib.hid hq
              have hq2 : q ≤ 2000 := by have := brk_le ts; have := TX7.out.seqb.1; omega
              clear hq
              go_wp2_with fail
              (with_reducible refine LN.out.mono ?_)
              rintro e u8 ⟨rfl, b8⟩
              have BU8 := Lib.hid (B7.out.trans (b8.mono B7.out.size))
              have XU8 := Lib.hid (TX7.out.below b8)
              have RU8 := Lib.hid (RQ7.out.below b8)
              have LI := Lib.hid (show Calls Try.prog 23 #[.pointer (some ⟨rb, 0, none⟩)] u8 (fun e w' => e = .returned (.int .i64 (q + 1 : Nat)) ∧ Below u8.heap.size u8 w') by
                have h := lines rb ns u8 RU8.out
                rw [TT.out, ← Q.out] at h
                exact h)
              clear b8
              go_wp2_with fail
              (with_reducible refine LI.out.mono ?_)
              rintro e u9 ⟨rfl, b9⟩
              have BU9 := Lib.hid (BU8.out.trans (b9.mono BU8.out.size))
              have XU9 := Lib.hid (XU8.out.below b9)
              have RU9 := Lib.hid (RU8.out.below b9)
              have ST := Lib.hid (refStarts ta nt ct ts u9 hnt XU9.out.seq)
              clear b9
              go_wp2_with fail
              (with_reducible refine ST.out.mono ?_)
              rintro e u10 ⟨sv, rfl, sown, b10⟩
              rw [← Q.out] at sown
              obtain ⟨sa, sc, rfl⟩ := own_form2 sown
              have BU10 := Lib.hid (BU9.out.trans (b10.mono BU9.out.size))
              have XU10 := Lib.hid (XU9.out.below b10)
              have RU10 := Lib.hid (RU9.out.below b10)
              clear b10 sown
              go_wp2
              go_roundw
              case rel => exact ⟨k + 1, ta, nt, ct, ts, ns, by omega, by go_num, rfl, XU10.out, RU10.out, TT.out, BU10.out⟩
              case measure => simp [intOf]; omega
      as_aux_lemma =>
        go_wp2_with fail
        have R5 : (wr.alloc (Obj.cells #[Value.int IntKind.i64 what, Value.int IntKind.i64 x, Value.int IntKind.i64 y, Value.slice da dn dc] 32)).rowIs wr.heap.size 32 4 (nd4 (.int .i64 what) (.int .i64 x) (.int .i64 y) (.slice da dn dc)) := row4 wr _ _ _ _ 32
        have b5 : Below wr.heap.size wr (wr.alloc (Obj.cells #[Value.int IntKind.i64 what, Value.int IntKind.i64 x, Value.int IntKind.i64 y, Value.slice da dn dc] 32)) := (Below.refl _ _).alloc (Nat.le_refl _) _
        generalize (wr.alloc (Obj.cells #[Value.int IntKind.i64 what, Value.int IntKind.i64 x, Value.int IntKind.i64 y, Value.slice da dn dc] 32)) = W5 at *
        have RW := Lib.hid R5
        have B5 := Lib.hid (BB.out.trans (b5.mono hwz))
        have TX5 := Lib.hid (TX.out.below b5)
        have RQ5 := Lib.hid (RQ.out.below b5)
        have h5lt : wr.heap.size < W5.heap.size := R5.lt
        clear R5 b5
        have LN := Lib.hid (show Calls Try.prog 22 #[.pointer (some ⟨rb, 0, none⟩)] W5 (fun e w' => e = .returned (.int .i64 nt) ∧ Below (W5).heap.size W5 w') by
          have h := len rb ns W5 RQ5.out
          rw [TT.out, TX5.out.seqb.1] at h
          exact h)
        obtain ⟨q, hq⟩ : ∃ q, q = brk ts := ⟨_, rfl⟩
        have Q := Lib.hid hq
        have hq2 : q ≤ 2000 := by have := brk_le ts; have := TX5.out.seqb.1; omega
        clear hq
        go_wp2_with fail
        (with_reducible refine LN.out.mono ?_)
        rintro e u8 ⟨rfl, b8⟩
        have BU8 := Lib.hid (B5.out.trans (b8.mono B5.out.size))
        have XU8 := Lib.hid (TX5.out.below b8)
        have RU8 := Lib.hid (RQ5.out.below b8)
        have LI := Lib.hid (show Calls Try.prog 23 #[.pointer (some ⟨rb, 0, none⟩)] u8 (fun e w' => e = .returned (.int .i64 (q + 1 : Nat)) ∧ Below u8.heap.size u8 w') by
          have h := lines rb ns u8 RU8.out
          rw [TT.out, ← Q.out] at h
          exact h)
        clear b8
        go_wp2_with fail
        (with_reducible refine LI.out.mono ?_)
        rintro e u9 ⟨rfl, b9⟩
        have BU9 := Lib.hid (BU8.out.trans (b9.mono BU8.out.size))
        have XU9 := Lib.hid (XU8.out.below b9)
        have RU9 := Lib.hid (RU8.out.below b9)
        have ST := Lib.hid (refStarts ta nt ct ts u9 hnt XU9.out.seq)
        clear b9
        go_wp2_with fail
        (with_reducible refine ST.out.mono ?_)
        rintro e u10 ⟨sv, rfl, sown, b10⟩
        rw [← Q.out] at sown
        obtain ⟨sa, sc, rfl⟩ := own_form2 sown
        have BU10 := Lib.hid (BU9.out.trans (b10.mono BU9.out.size))
        have XU10 := Lib.hid (XU9.out.below b10)
        have RU10 := Lib.hid (RU9.out.below b10)
        clear b10 sown
        go_wp2
        go_roundw
        case rel => exact ⟨k + 1, ta, nt, ct, ts, ns, by omega, by go_num, rfl, XU10.out, RU10.out, TT.out, BU10.out⟩
        case measure => simp [intOf]; omega
    · as_aux_lemma =>
        have hltz : ¬ (k : Int) < (m : Int) := by omega
        have SL := slice_yes rb ns 0 nt wr RQ.out (Nat.zero_le _) (by rw [TT.out, TL.out]; exact Nat.le_refl _)
        rw [TT.out, List.take_of_length_le (by rw [TL.out]; exact Nat.le_refl _), List.drop_zero] at SL
        have SS := Lib.hid (show Calls Try.prog 13 #[.pointer (some ⟨rb, 0, none⟩), .int .i64 0, .int .i64 nt] wr (Got wr ts) from SL)
        clear SL
        go_wp2_with fail
        (with_reducible refine SS.out.mono ?_)
        rintro e w6 ⟨v, rfl, own, b6⟩
        rw [TL.out] at own
        obtain ⟨sa, sc, rfl, hsc, sq⟩ := own_seq own
        have B6 := Lib.hid (BB.out.trans (b6.mono hwz))
        have SM := Lib.hid (same sa ta nt sc ct ts w6 (by omega) sq (TX.out.below b6).seq)
        clear b6 own sq
        go_wp2_with fail
        (with_reducible refine SM.out.mono ?_)
        rintro e w7 ⟨rfl, b7⟩
        have B7 := Lib.hid (B6.out.trans (b7.mono B6.out.size))
        have KN := Lib.hid (knows w7)
        clear b7
        go_wp2_with fail
        (with_reducible refine KN.out.mono ?_)
        rintro e w8 ⟨rfl, b8⟩
        have B8 := Lib.hid (B7.out.trans (b8.mono B7.out.size))
        clear b8
        go_wp2
        go_ret
        exact ⟨rfl, B8.out⟩
end Go.Proofs.Ytlijkejadjkbcaa
