/- The walk of the law KeysParts: bytes fed in parts tell the keys that they tell at once. Conditions: the arguments lie in memory; three variables of the library's hold something. -/
import Derived.Test.YtlmfhdkpgpjbnaaDoorState
import Derived.Deep.QuietTactic
namespace Go.Proofs.YtlmfhdkpgpjbnaaDoor
open Go Go.RowKit Go.Lib

theorem slice_to (a : Option Addr) (n cap i : Nat) (hi : i ≤ cap) (w : World) : (Instr.slice 22 (.slice a n cap) none (some (.int .i64 i)) none).run Tryd.prog w = .ok (.slice a i cap) w := by
  rw [run_slice_h (P := Tryd.prog) w 22 a n cap und22 .i64 (i : Int) (by omega) (by omega), size5]
  simp only [Result.andThen, sliced]
  have e : (if cap = 0 then a else a.map (·.add (0 * 1))) = a := by
    split
    · rfl
    · cases a with
      | none => rfl
      | some x =>
        obtain ⟨b, off, sp⟩ := x
        simp [Addr.add]
  rw [e]
  simp
theorem BytesIn.take {l : List UInt8} {a : Option Addr} {w : World} (h : BytesIn l a w) (m : Nat) : BytesIn (l.take m) a w := by
  rcases h with h0 | ⟨b, off, rfl, hlt, hc⟩
  · exact .inl (by rw [List.length_take]; omega)
  · exact .inr ⟨b, off, rfl, hlt, fun j hj => by
      rw [List.length_take] at hj
      rw [bAt_take _ _ _ (by omega)]
      exact hc j (by omega)⟩
theorem slice_rest (a : Option Addr) (l : List UInt8) (cap i : Nat) (hi : i ≤ l.length) (hn : l.length ≤ cap) (hno : a = none → l.length = 0 ∧ cap = 0) : ∃ a', (∀ w : World, (Instr.slice 22 (.slice a l.length cap) (some (.int .i64 i)) none none).run Tryd.prog w = .ok (.slice a' (l.drop i).length (cap - i)) w) ∧ (∀ w, BytesIn l a w → BytesIn (l.drop i) a' w) ∧ (a' = none → (l.drop i).length = 0 ∧ cap - i = 0) := by
  by_cases h0 : i = 0
  · subst h0
    refine ⟨if cap = 0 then a else a.map (·.add (0 * 1)), fun w => ?_, fun w h => ?_, fun h => ?_⟩
    · have e : ((0 : Nat) : Int) = 0 := rfl
      rw [e, run_slice_l (P := Tryd.prog) w 22 a l.length cap und22 .i64 0 (by omega) (by omega), size5]
      simp only [Result.andThen, sliced]
      simp
    · have e : (if cap = 0 then a else a.map (·.add (0 * 1))) = a := by
        split
        · rfl
        · cases a with
          | none => rfl
          | some x =>
            obtain ⟨b, off, sp⟩ := x
            simp [Addr.add]
      rw [e]
      exact h
    · split at h
      · rw [List.drop_zero]; have := hno h; omega
      · cases a with
        | none => rw [List.drop_zero]; have := hno rfl; omega
        | some ad => cases h
  · exact slice_from a l cap i h0 hi hn hno

theorem keyVals_get (l : List Ky) (k i : Nat) (x : Ky) (h : l[k]? = some x) (hi : i < 3) : (keyVals l)[k * 3 + i]? = x.cells[i]? := by
  induction l generalizing k with
  | nil => cases h
  | cons y r ih =>
    have e : keyVals (y :: r) = y.cells ++ keyVals r := by simp [keyVals]
    have e3 : y.cells.length = 3 := rfl
    cases k with
    | zero =>
      cases h
      rw [e, List.getElem?_append_left (by omega), Nat.zero_mul, Nat.zero_add]
    | succ k =>
      rw [e, List.getElem?_append_right (by omega), e3, show (k + 1) * 3 + i - 3 = k * 3 + i by omega]
      exact ih k (by simpa using h)
theorem key_at {l : List Ky} {v : Value} {w : World} {B n : Nat} (h : w.ownsRow B 30 3 v n (keyVals l)) (q : Nat) (x : Ky) (hq : l[q]? = some x) :
    ∃ g c, v = .slice (some ⟨g, 0, none⟩) n c ∧ g < w.heap.size ∧ w.cell? ⟨g, q * 3, none⟩ = some (.int .i64 x.k) ∧ w.cell? ⟨g, q * 3 + 1, none⟩ = some (.int .i32 x.r) ∧ w.cell? ⟨g, q * 3 + 2, none⟩ = some (.int .i64 x.m) := by
  have hl : l.length = n := by have := h.1; rw [keyVals_len] at this; omega
  have hlt := (List.getElem?_eq_some_iff.1 hq).1
  have h2 := h
  rcases h.2 with ⟨_, h0⟩ | ⟨g, c, cur, rfl, _, hh, _⟩
  · omega
  · exact ⟨g, c, rfl, (Array.getElem?_eq_some_iff.1 hh).1, (h2.cellAt (q * 3) (by omega)).trans (keyVals_get l q 0 x hq (by omega)), (h2.cellAt (q * 3 + 1) (by omega)).trans (keyVals_get l q 1 x hq (by omega)), (h2.cellAt (q * 3 + 2) (by omega)).trans (keyVals_get l q 2 x hq (by omega))⟩

set_option maxHeartbeats 8000000 in
set_option maxRecDepth 100000 in
theorem parts_short (l cuts : List UInt8) (a0 a1 : Option Addr) (c0 c1 : Nat) (w : World) (hl : l.length ≤ 500) (hk : cuts.length ≤ 100) (h0 : BytesIn l a0 w) (h1 : BytesIn cuts a1 w) (hc0 : l.length ≤ c0) (hm0 : c0 ≤ 9223372036854775807) (hn0 : a0 = none → l.length = 0 ∧ c0 = 0) (hw : Wd w) :
    Calls Tryd.prog 3 #[.slice a0 l.length c0, .slice a1 cuts.length c1] w fun e w' => e = .returned (.bool true) ∧ Below w.heap.size w w' := by
  obtain ⟨i2, hi2, hy0, hy1, hy2⟩ := info_cut Tryd.info30
  have hl' : ¬ (500 : Int) < (l.length : Int) := by omega
  have hk' : ¬ (100 : Int) < (cuts.length : Int) := by omega
  have BD := Lib.hid (show Below w.heap.size w (w.alloc (Obj.cells #[.slice none 0 0] 33)) from (Below.refl _ _).alloc (Nat.le_refl _) _)
  have BE := Lib.hid (show Below (w.alloc (Obj.cells #[.slice none 0 0] 33)).heap.size (w.alloc (Obj.cells #[.slice none 0 0] 33)) ((w.alloc (Obj.cells #[.slice none 0 0] 33)).alloc (Obj.cells #[.slice none 0 0] 33)) from (Below.refl _ _).alloc (Nat.le_refl _) _)
  have es : (w.alloc (Obj.cells #[.slice none 0 0] 33)).heap.size = w.heap.size + 1 := by simp
  have S0 := Lib.hid (show St w l [] l [] [] (.slice none 0 0) a0 c0 ((w.alloc (Obj.cells #[.slice none 0 0] 33)).alloc (Obj.cells #[.slice none 0 0] 33)) from
    ⟨rfl, .done [] (by rw [ex3]), World.ownsRow_nil _ _ _ _, (DecAt.new w _).below BE.out, by have := DecAt.new (w.alloc (Obj.cells #[.slice none 0 0] 33)) (fun _ => True); rw [es] at this; exact this, BD.out.trans (BE.out.mono (by simp)), by simp, h0, hc0, hm0, hn0⟩)
  have H0 := Lib.hid h0
  have H1 := Lib.hid h1
  have HN := Lib.hid hn0
  have HW := Lib.hid hw
  clear es h0 h1 hn0 hw BD BE
  go_enter Tryd.func3, Tryd.ntmps3
  go_wp2_with (go_at_call 4; (with_reducible refine (newAt _).mono ?_); rintro e w' ⟨rfl, rfl⟩)
  go_loopw [7, 8, 9, 10] (fun v7 v8 v9 _ wr => ∃ (k : Nat) (l1 rest : List UInt8) (ks : List Ky) (r : List UInt8) (a : Option Addr) (c : Nat), v9 = .int .i64 k ∧ k ≤ cuts.length ∧ v8 = .slice a rest.length c ∧ St w l l1 rest ks r v7 a c wr) (fun _ _ v9 _ _ => cuts.length - (RowKit.intOf v9).toNat)
  case atStart => exact ⟨0, [], l, [], [], a0, c0, rfl, Nat.zero_le _, rfl, S0.out⟩
  case round =>
    obtain ⟨k, l1, rest, ks, r, a, c, rfl, hkc, rfl, hst⟩ := hrel
    have ST := Lib.hid hst
    have hlen := hst.lens
    have hrc := hst.hcap
    clear hst
    by_cases hlt : k < cuts.length
    · have hlt' : (k : Int) < (cuts.length : Int) := by omega
      rcases H1.out with hz | ⟨b1, o1, rfl, hb1, hc1⟩
      · omega
      have ck := (ST.out.bel.cell (p := ⟨b1, o1 + k, none⟩) hb1).trans (hc1 k hlt)
      obtain ⟨x, hx⟩ : ∃ x, x = bAt cuts k := ⟨_, rfl⟩
      rw [← hx] at ck
      have hx256 : x < 256 := by rw [hx]; exact bAt_lt cuts k
      have wx : RowKit.wrap64 (x : Int) = (x : Int) := by unfold RowKit.wrap64; omega
      clear hc1 hx hx256
      by_cases hxm : rest.length < x
      · have hx1 : (rest.length : Int) < (x : Int) := by omega
        have hmr : rest.length ≤ rest.length := by omega
        have htl : (rest.take rest.length).length = rest.length := by rw [List.length_take]; omega
        have sl1 := slice_to a rest.length c rest.length (by omega)
        obtain ⟨a', sl2, hin', hno'⟩ := slice_rest a rest c rest.length hmr hrc ST.out.hno
        have IN := Lib.hid (hin' w ST.out.inn)
        have NO := Lib.hid hno'
        have DL := Lib.hid (show (rest.drop rest.length).length ≤ c - rest.length by rw [List.length_drop]; omega)
        have FD := Lib.hid (feedAt _ w.heap.size r (rest.take rest.length) a c wr ST.out.dec ((ST.out.inn.take rest.length).below ST.out.bel) (fun e => by have := ST.out.hno e; omega) (by omega) (by omega) (HW.out.below ST.out.bel))
        rw [htl] at FD
        have HM := Lib.hid hmr
        clear hin' hno' htl hmr
        go_wp2_with fail
        (with_reducible refine FD.out.mono ?_)
        rintro e wf ⟨v', ks', r', rfl, g1, g2, g3, g4, g5⟩
        have G := Lib.hid (Got.mk g1 g2 g3 g4 g5)
        have OF := Lib.hid (own_but ST.out.own g5 (by omega))
        have SF := Lib.hid g5.size
        have hks := g1.len
        rw [List.length_append, List.length_take] at hks
        obtain ⟨av, cv, rfl, kn, kc⟩ := own_keys g2
        have KN := Lib.hid kn
        have KC := Lib.hid kc
        have hsz := ST.out.size
        clear g1 g2 g3 g4 g5 kn kc FD
        go_wp2_with (at_builtin; refine Hid.out ?_)
        refine Lib.hid ?_
        refine wpList_append_apart _ rfl _ _ 26 rfl (w.heap.size + 2) 30 i2 _ 3 24 Tryd.underlying26 hi2 hy0 hy1 hy2 rfl (by decide) _ ks.length (keyVals ks) rfl OF.out av ks'.length cv (keyVals ks') rfl KN.out (keyVals_len ks') KC.out (keyVals_one ks') (by unfold maxLen; omega) (by omega) (by have := SF.out; omega) ?_
        intro vg wg own gr hv
        have NX := Lib.hid (ST.out.done G.out HM.out own gr hv IN.out DL.out (by have := ST.out.hc63; omega) NO.out)
        clear own gr hv
        go_wp2_with fail
        go_roundw
        case rel => exact ⟨k + 1, _, _, _, _, a', c - rest.length, by go_num, by omega, by first | rfl | simp, NX.out⟩
        case measure => (simp [RowKit.intOf]; try omega)
      · have hx1 : ¬ (rest.length : Int) < (x : Int) := by omega
        have hmr : x ≤ rest.length := by omega
        have htl : (rest.take x).length = x := by rw [List.length_take]; omega
        have sl1 := slice_to a rest.length c x (by omega)
        obtain ⟨a', sl2, hin', hno'⟩ := slice_rest a rest c x hmr hrc ST.out.hno
        have IN := Lib.hid (hin' w ST.out.inn)
        have NO := Lib.hid hno'
        have DL := Lib.hid (show (rest.drop x).length ≤ c - x by rw [List.length_drop]; omega)
        have FD := Lib.hid (feedAt _ w.heap.size r (rest.take x) a c wr ST.out.dec ((ST.out.inn.take x).below ST.out.bel) (fun e => by have := ST.out.hno e; omega) (by omega) (by omega) (HW.out.below ST.out.bel))
        rw [htl] at FD
        have HM := Lib.hid hmr
        clear hin' hno' htl hmr
        go_wp2_with fail
        (with_reducible refine FD.out.mono ?_)
        rintro e wf ⟨v', ks', r', rfl, g1, g2, g3, g4, g5⟩
        have G := Lib.hid (Got.mk g1 g2 g3 g4 g5)
        have OF := Lib.hid (own_but ST.out.own g5 (by omega))
        have SF := Lib.hid g5.size
        have hks := g1.len
        rw [List.length_append, List.length_take] at hks
        obtain ⟨av, cv, rfl, kn, kc⟩ := own_keys g2
        have KN := Lib.hid kn
        have KC := Lib.hid kc
        have hsz := ST.out.size
        clear g1 g2 g3 g4 g5 kn kc FD
        go_wp2_with (at_builtin; refine Hid.out ?_)
        refine Lib.hid ?_
        refine wpList_append_apart _ rfl _ _ 26 rfl (w.heap.size + 2) 30 i2 _ 3 24 Tryd.underlying26 hi2 hy0 hy1 hy2 rfl (by decide) _ ks.length (keyVals ks) rfl OF.out av ks'.length cv (keyVals ks') rfl KN.out (keyVals_len ks') KC.out (keyVals_one ks') (by unfold maxLen; omega) (by omega) (by have := SF.out; omega) ?_
        intro vg wg own gr hv
        have NX := Lib.hid (ST.out.done G.out HM.out own gr hv IN.out DL.out (by have := ST.out.hc63; omega) NO.out)
        clear own gr hv
        go_wp2_with fail
        go_roundw
        case rel => exact ⟨k + 1, _, _, _, _, a', c - x, by go_num, by omega, by first | rfl | simp, NX.out⟩
        case measure => (simp [RowKit.intOf]; try omega)
    · obtain rfl : k = cuts.length := by omega
      have htl : (rest.take rest.length).length = rest.length := by rw [List.length_take]; omega
      have FD := Lib.hid (feedAt _ w.heap.size r (rest.take rest.length) a c wr ST.out.dec ((ST.out.inn.take rest.length).below ST.out.bel) (fun e => by have := ST.out.hno e; omega) (by omega) (by omega) (HW.out.below ST.out.bel))
      rw [htl] at FD
      clear htl hlt
      go_wp2_with fail
      (with_reducible refine FD.out.mono ?_)
      rintro e wf ⟨v', ks', r', rfl, g1, g2, g3, g4, g5⟩
      have G := Lib.hid (Got.mk g1 g2 g3 g4 g5)
      have OF := Lib.hid (own_but ST.out.own g5 (by omega))
      have SF := Lib.hid g5.size
      have hks := g1.len
      rw [List.length_append, List.length_take] at hks
      obtain ⟨av, cv, rfl, kn, kc⟩ := own_keys g2
      have KN := Lib.hid kn
      have KC := Lib.hid kc
      have hsz := ST.out.size
      clear g1 g2 g3 g4 g5 kn kc FD
      go_wp2_with (at_builtin; refine Hid.out ?_)
      refine Lib.hid ?_
      refine wpList_append_apart _ rfl _ _ 26 rfl (w.heap.size + 2) 30 i2 _ 3 24 Tryd.underlying26 hi2 hy0 hy1 hy2 rfl (by decide) _ ks.length (keyVals ks) rfl OF.out av ks'.length cv (keyVals ks') rfl KN.out (keyVals_len ks') KC.out (keyVals_one ks') (by unfold maxLen; omega) (by omega) (by have := SF.out; omega) ?_
      intro vg wg own gr hv
      have NX := Lib.hid (ST.out.done (m := rest.length) (a' := none) (c' := 0) G.out (Nat.le_refl _) own gr hv (.inl (by simp)) (by simp) (by omega) (fun _ => ⟨by simp, rfl⟩))
      clear own gr hv
      have FE := Lib.hid (feedAt _ (w.heap.size + 1) [] l a0 c0 wg NX.out.enc (H0.out.below NX.out.bel) HN.out (by simp) (by omega) (HW.out.below NX.out.bel))
      go_wp2_with fail
      (with_reducible refine FE.out.mono ?_)
      rintro e wh ⟨v2, ks2, r2, rfl, q1, q2, q3, q4, q5⟩
      have hcut := NX.out.cut
      rw [List.drop_length, List.append_nil] at hcut
      have hrr := NX.out.run
      rw [← hcut] at hrr
      obtain ⟨rfl, rfl⟩ := hrr.same q1
      have OG := Lib.hid (own_but NX.out.own q5 (by omega))
      have OE := Lib.hid q2
      have hd5 := NX.out.dec.lt
      have hng : (ks ++ ks').length ≤ 500 := by have := NX.out.run.len; have h2 := congrArg List.length hcut; omega
      obtain ⟨ad, cd, dc, _⟩ := NX.out.dec.row
      obtain ⟨ae, ce, ec, _⟩ := q3.row
      have DC := Lib.hid ((q5.cell (p := ⟨w.heap.size, 0, none⟩) hd5 (by simp)).trans dc)
      have EC := Lib.hid ec
      have BH := Lib.hid (show Below w.heap.size w wh from NX.out.bel.trans (q4.mono (by omega)))
      generalize ks ++ ks' = KS at *
      obtain ⟨ag, cg, rfl, _, _⟩ := own_keys OG.out
      obtain ⟨a2, c2, rfl, _, _⟩ := own_keys OE.out
      clear q1 q2 q3 q4 q5 dc ec hcut hrr FE hks hsz hd5
      go_wp2_with (first
        | (go_at_call 7; (with_reducible refine (waitingAt _ _ _ _ _ DC.out).mono ?_); rintro e w' ⟨rfl, hw'⟩; have hw'' := hw'.symm; clear hw'; subst hw'')
        | (go_at_call 7; (with_reducible refine (waitingAt _ _ _ _ _ EC.out).mono ?_); rintro e w' ⟨rfl, hw'⟩; have hw'' := hw'.symm; clear hw'; subst hw''))
      go_loopw [12] (fun i wx => ∃ q : Nat, i = .int .i64 q ∧ q ≤ KS.length ∧ Below wh.heap.size wh wx) (fun i _ => KS.length - (RowKit.intOf i).toNat)
      case atStart => exact ⟨0, rfl, Nat.zero_le _, Below.refl _ _⟩
      case round =>
        obtain ⟨q, rfl, hq, hbx⟩ := hrel
        have BX := Lib.hid hbx
        by_cases hqn : q < KS.length
        · have hqi : (q : Int) < (KS.length : Int) := by omega
          obtain ⟨x, hx⟩ : ∃ x, KS[q]? = some x := ⟨_, List.getElem?_eq_getElem hqn⟩
          obtain ⟨g, cg', hvg, hg, y0, y1, y2⟩ := key_at OG.out q x hx
          obtain ⟨g2, c2', hv2, hg2, z0, z1, z2⟩ := key_at OE.out q x hx
          simp only [Value.slice.injEq] at hvg hv2
          obtain ⟨rfl, _, rfl⟩ := hvg
          obtain ⟨rfl, _, rfl⟩ := hv2
          obtain ⟨x1, x2, x3⟩ := x
          have y0 := (hbx.cell (p := ⟨g, q * 3, none⟩) hg).trans y0
          have y1 := (hbx.cell (p := ⟨g, q * 3 + 1, none⟩) hg).trans y1
          have y2 := (hbx.cell (p := ⟨g, q * 3 + 2, none⟩) hg).trans y2
          have z0 := (hbx.cell (p := ⟨g2, q * 3, none⟩) hg2).trans z0
          have z1 := (hbx.cell (p := ⟨g2, q * 3 + 1, none⟩) hg2).trans z1
          have z2 := (hbx.cell (p := ⟨g2, q * 3 + 2, none⟩) hg2).trans z2
          clear hx hbx hg hg2
          go_wp2_with fail
          go_quiet (fail)
          go_wp2
          go_roundw
          case rel => exact ⟨q + 1, by go_num, by omega, below_drewN BX.out _⟩
          case measure => (simp [RowKit.intOf]; try omega)
        · obtain rfl : q = KS.length := by omega
          have KN2 := Lib.hid (knowsAt wr (HW.out.below (BH.out.trans (hbx.mono BH.out.size))))
          clear hbx hqn hq
          go_wp2_with fail
          (with_reducible refine KN2.out.mono ?_)
          rintro e wy ⟨rfl, hby⟩
          have BY := Lib.hid ((BH.out.trans (BX.out.mono BH.out.size)).trans (hby.mono (Nat.le_trans BH.out.size BX.out.size)))
          clear hby
          go_wp2
          go_ret
          exact ⟨rfl, BY.out⟩

set_option maxHeartbeats 4000000 in
set_option maxRecDepth 100000 in
theorem parts_long (a0 a1 : Option Addr) (n0 n1 c0 c1 : Nat) (w : World) (h : 500 < n0 ∨ 100 < n1) (hw : Wd w) :
    Calls Tryd.prog 3 #[.slice a0 n0 c0, .slice a1 n1 c1] w fun e w' => e = .returned (.bool true) ∧ Below w.heap.size w w' := by
  have BD := Lib.hid (show Below w.heap.size w ((w.alloc (Obj.cells #[.slice none 0 0] 33)).alloc (Obj.cells #[.slice none 0 0] 33)) from ((Below.refl _ _).alloc (Nat.le_refl _) _).alloc (by simp) _)
  have KN := Lib.hid (knowsAt _ (hw.below BD.out))
  clear hw
  by_cases h0 : 500 < n0
  · have h0' : (500 : Int) < (n0 : Int) := by omega
    clear h h0
    go_enter Tryd.func3, Tryd.ntmps3
    go_wp2_with (first
      | (go_at_call 4; (with_reducible refine (newAt _).mono ?_); rintro e w' ⟨rfl, rfl⟩)
      | (go_at_call 5; (with_reducible refine KN.out.mono ?_); rintro e w1 ⟨rfl, hb1⟩; have B1 := Lib.hid (BD.out.trans (hb1.mono BD.out.size)); clear hb1))
    go_ret
    exact ⟨rfl, B1.out⟩
  · have h0' : ¬ (500 : Int) < (n0 : Int) := by omega
    have h1' : (100 : Int) < (n1 : Int) := by omega
    clear h h0
    go_enter Tryd.func3, Tryd.ntmps3
    go_wp2_with (first
      | (go_at_call 4; (with_reducible refine (newAt _).mono ?_); rintro e w' ⟨rfl, rfl⟩)
      | (go_at_call 5; (with_reducible refine KN.out.mono ?_); rintro e w1 ⟨rfl, hb1⟩; have B1 := Lib.hid (BD.out.trans (hb1.mono BD.out.size)); clear hb1))
    go_ret
    exact ⟨rfl, B1.out⟩
end Go.Proofs.YtlmfhdkpgpjbnaaDoor
