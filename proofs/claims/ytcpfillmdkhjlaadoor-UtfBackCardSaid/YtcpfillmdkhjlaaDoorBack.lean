/- The walk of UtfBack. -/
import Derived.Test.YtcpfillmdkhjlaaDoorWalkL
namespace Go.Proofs.YtcpfillmdkhjlaaDoor
open Go Go.RowKit Go.Lib

theorem back_long (a c : Option Addr) (n m cap cap' : Nat) (w : World) (h : 500 < n ∨ (n ≤ 500 ∧ 500 < m)) (hT : Lib.Utf8Tabs 0 1 w) :
    Calls Tryd.prog 5 #[.slice a n cap, .slice c m cap'] w fun e w' => e = .returned (.bool true) ∧ Below w.heap.size w w' := by
  have HT := Lib.hid hT
  clear hT
  rcases h with h | ⟨h, h'⟩
  · have hn : (500 : Int) < (n : Int) := by omega
    go_enter Tryd.func5, Tryd.ntmps5
    go_wp2_with (go_at_call 6; refine (knows _ HT.out).mono ?_; rintro e w' ⟨rfl, hb⟩)
    go_ret
    exact ⟨rfl, ‹_›⟩
  · have hn : ¬ (500 : Int) < (n : Int) := by omega
    have hm : (500 : Int) < (m : Int) := by omega
    go_enter Tryd.func5, Tryd.ntmps5
    go_wp2_with (go_at_call 6; refine (knows _ HT.out).mono ?_; rintro e w' ⟨rfl, hb⟩)
    go_ret
    exact ⟨rfl, ‹_›⟩

/-- Runes at the head of a block. -/
def HeadAt (w : World) (g n : Nat) (zs : List Int) : Prop := zs.length = n ∧ g < w.heap.size ∧ ∀ j z, zs[j]? = some z → w.cell? ⟨g, j, none⟩ = some (.int .i32 z)
theorem HeadAt.below {w w' : World} {g n : Nat} {zs : List Int} (h : HeadAt w g n zs) (hb : Below w.heap.size w w') : HeadAt w' g n zs :=
  ⟨h.1, Nat.lt_of_lt_of_le h.2.1 hb.size, fun j z hz => (hb.cell (by exact h.2.1)).trans (h.2.2 j z hz)⟩
theorem HeadAt.seq {w : World} {g n : Nat} {zs : List Int} (h : HeadAt w g n zs) : SeqAt .i32 w (some ⟨g, 0, none⟩) n zs :=
  ⟨h.1, .inr ⟨g, 0, rfl, h.2.1, fun j z hz => by rw [Nat.zero_add]; exact h.2.2 j z hz⟩⟩
theorem own_some {w : World} {B n : Nat} {v : Value} {zs : List Int} (h : w.ownsRow B 21 1 v n (zs.map (fun x => Value.int .i32 x))) (hv : v ≠ .slice none 0 0) : ∃ g cap, v = .slice (some ⟨g, 0, none⟩) n cap ∧ n ≤ cap ∧ HeadAt w g n zs := by
  have hl := h.1
  simp at hl
  rcases h.2 with ⟨rfl, rfl⟩ | ⟨g, cap, cur, rfl, hB, hg, hc, _⟩
  · exact absurd rfl hv
  · refine ⟨g, cap, rfl, hc, hl, (Array.getElem?_eq_some_iff.1 hg).1, fun j z hz => ?_⟩
    have := h.cells (g := g) rfl j (.int .i32 z) (by simp [hz])
    rwa [Addr.add_lit, Nat.zero_add] at this
theorem seq_tail {w : World} {g n m cap : Nat} {A M : List Int} (h : HeadAt w g (n + m) (A ++ M)) (hA : A.length = n) (hM : M.length = m) (hc : n + m ≤ cap) : SeqAt .i32 w (if cap = n then some ⟨g, 0, none⟩ else some ⟨g, n, none⟩) m M := by
  refine ⟨hM, ?_⟩
  by_cases hcn : cap = n
  · exact .inl (by omega)
  · rw [if_neg hcn]
    refine .inr ⟨g, n, rfl, h.2.1, fun j z hz => ?_⟩
    exact h.2.2 (n + j) z (by rw [List.getElem?_append_right (by omega), show n + j - A.length = j by omega]; exact hz)
theorem seq_head {w : World} {g n m : Nat} {A M : List Int} (h : HeadAt w g (n + m) (A ++ M)) (hA : A.length = n) : SeqAt .i32 w (some ⟨g, 0, none⟩) n A := by
  refine ⟨hA, .inr ⟨g, 0, rfl, h.2.1, fun j z hz => ?_⟩⟩
  rw [Nat.zero_add]
  exact h.2.2 j z (by rw [List.getElem?_append_left (List.getElem?_eq_some_iff.1 hz).1]; exact hz)

theorem src8 {s : ByteArray} {a : Option Addr} {w : World} (h : BytesIn s a w) : ∀ ad, a = some ad → ∀ j u, ((numsOf8 s).map (fun x => Value.int .u8 x))[j]? = some u → w.cell? (ad.add j) = some u := by
  intro ad ha j u hj
  rcases h with h0 | ⟨b, off, rfl, hlt, hc⟩
  · have : ((numsOf8 s).map (fun x => Value.int .u8 x)) = [] := by
      apply List.eq_nil_of_length_eq_zero
      rw [List.length_map, numsOf8_length]; exact h0
    rw [this] at hj
    cases hj
  · cases ha
    exact numsOf8_cells hc j u hj
theorem nums_one (zs : List Int) : ∀ u ∈ zs.map (fun x => Value.int .u8 x), u.oneCell' = true := by
  intro u hu
  obtain ⟨x, _, rfl⟩ := List.mem_map.1 hu
  rfl
theorem encCells_len (zs : List Int) : (encCells zs).length = (encNums zs).length := by rw [encCells_eq]; simp
theorem map_fix_length (zs : List Int) : (zs.map fix).length = zs.length := by simp
theorem decAll_bounds (s : ByteArray) : ∀ z ∈ decAll s, -2147483648 ≤ z ∧ z ≤ 2147483647 := by
  intro z hz
  have h := decFrom_valid s s.size 0
  rw [List.all_eq_true] at h
  have := valid_iff (h z hz)
  omega

set_option maxHeartbeats 4000000 in
set_option maxRecDepth 100000 in
theorem back_short (a0 a1 : Option Addr) (n cap0 cap1 : Nat) (zs : List Int) (s : ByteArray) (w : World) (hn : n ≤ 500) (h0 : SeqAt .i32 w a0 n zs) (hb : ∀ z ∈ zs, -2147483648 ≤ z ∧ z ≤ 2147483647) (hn0 : n ≤ cap0)
    (hs : s.size ≤ 500) (hcap : s.size ≤ cap1) (hno : a1 = none → s.size = 0 ∧ cap1 = 0) (hin : BytesIn s a1 w) (hT : Lib.Utf8Tabs 0 1 w) :
    Calls Tryd.prog 5 #[.slice a0 n cap0, .slice a1 s.size cap1] w fun e w' => e = .returned (.bool true) ∧ Below w.heap.size w w' := by
  obtain ⟨i0, hi, hz0, hz1, hz2⟩ := info_parts Tryd.info5
  have hn' : ¬ (500 : Int) < (n : Int) := by omega
  have hs' : ¬ (500 : Int) < (s.size : Int) := by omega
  have HT := Lib.hid hT
  have H0 := Lib.hid h0
  have HB := Lib.hid hb
  have HI := Lib.hid hin
  have HN := Lib.hid hno
  have hMle : (decAll s).length ≤ s.size := decFrom_le s s.size 0
  have hMv := Lib.hid (show (decAll s).all Lib.validRune = true from decFrom_valid s s.size 0)
  have hMb := Lib.hid (decAll_bounds s)
  have hD := decode2 s a1 cap1 w (by omega) hcap hin
  have hE := Lib.hid (dec_enc (numsOf8 s) zs)
  rw [numsOf8_str] at hE
  generalize decAll s = M at hMle hMv hMb hD hE
  obtain ⟨m, hm⟩ : ∃ m, m = M.length := ⟨_, rfl⟩
  rw [← hm] at hD hMle
  have HM := Lib.hid hm
  have HD := Lib.hid hD
  clear hT h0 hb hin hno hD hm
  go_enter Tryd.func5, Tryd.ntmps5
  go_wp2_with fail
  with_reducible refine HD.out.mono ?_
  rintro e w1 ⟨v5, rfl, nn5, o5, b1⟩
  obtain ⟨g5, c5, rfl, hc5, q5⟩ := own_some o5 nn5
  have B1 := Lib.hid b1
  have Q5 := Lib.hid q5
  have z1 := b1.size
  clear b1 q5 o5 nn5
  have A1 := Lib.hid (all (some ⟨g5, 0, none⟩) m c5 M w1 (by omega) Q5.out.seq)
  rw [hMv.out] at A1
  go_wp2_with fail
  with_reducible refine A1.out.mono ?_
  rintro e w' ⟨rfl, rfl⟩
  go_wp2_with fail
  refine (encode a0 n cap0 zs w1 (by omega) (H0.out.below B1.out) HB.out).mono ?_
  rintro e w2 ⟨v6, rfl, o6, b2⟩
  have hle6 := encCells_le zs
  have hl6 := H0.out.1
  have B2 := Lib.hid (B1.out.trans (b2.mono B1.out.size))
  have BB2 := Lib.hid b2
  have O6 := Lib.hid o6
  have z2 := b2.size
  have hle6' : (encCells zs).length ≤ 2000 := by omega
  clear b2 o6 hl6 hle6
  go_wp2_with (at_builtin; refine wpList_append_in _ rfl _ _ 25 rfl w1.heap.size 5 i0 (.int .u8 0) 1 Tryd.underlying25 hi hz0 hz1 hz2 rfl _ _ _ rfl O6.out a1 s.size cap1 ((numsOf8 s).map (fun x => Value.int .u8 x)) rfl HN.out (by rw [List.length_map, numsOf8_length]) (src8 (HI.out.below B2.out)) (nums_one _) (by unfold maxLen; omega) (by omega) (by omega) ?_)
  intro v7 w3 o7 g7
  rw [encCells_eq, ← List.map_append, ← encCells_eq] at o7
  obtain ⟨a7, c7, rfl, hc7, hs7, i7⟩ := own_bytes o7 (by
    intro z hz
    rcases List.mem_append.1 hz with h | h
    · exact encNums_bytes zs z h
    · exact numsOf8_bytes s z h)
  have B3 := Lib.hid (B2.out.grown g7 (by omega) (fun k hk => Nat.le_trans z1 (O6.out.lt k hk).1))
  have Q5c := Lib.hid (show HeadAt w3 g5 m M from Q5.out.below (((show Below w1.heap.size w1 w2 from BB2.out)).grown g7 z2 (fun k hk => (O6.out.lt k hk).1)))
  have hn4 := H0.out.1
  have D4 := decode2 _ a7 c7 w3 (by rw [hs7]; omega) (by rw [hs7]; exact hc7) i7
  rw [hE.out, hs7] at D4
  rw [show (zs.map fix ++ M).length = n + m by rw [List.length_append, map_fix_length, hn4, ← HM.out]] at D4
  have DD4 := Lib.hid D4
  clear o7 g7 i7 hs7 D4
  go_wp2_with fail
  with_reducible refine DD4.out.mono ?_
  rintro e w4 ⟨v8, rfl, nn8, o8, b4⟩
  obtain ⟨g8, c8, rfl, hc8, q8⟩ := own_some o8 nn8
  have B4 := Lib.hid (B3.out.trans (b4.mono B3.out.size))
  have Q5d := Lib.hid (Q5c.out.below b4)
  have Q8 := Lib.hid q8
  have L4 := Lib.hid (show (zs.map fix).length = n by rw [map_fix_length, hn4])
  clear b4 q8 o8 nn8 hn4
  have hcz : (n : Int) ≤ (c8 : Int) := by omega
  by_cases hcn : c8 = n
  · obtain rfl : m = 0 := by omega
    have S4 := Lib.hid (same (some ⟨g8, 0, none⟩) (some ⟨g5, 0, none⟩) 0 0 c5 M w4 (by omega) ⟨HM.out.symm, .inl (by omega)⟩ Q5d.out.seq)
    subst hcn
    go_wp2_with fail
    with_reducible refine S4.out.mono ?_
    rintro e w5 ⟨rfl, b5⟩
    have B5 := Lib.hid (B4.out.trans (b5.mono B4.out.size))
    have Q5e := Lib.hid (Q5d.out.below b5)
    have Q8e := Lib.hid (Q8.out.below b5)
    clear b5
    have A5 := Lib.hid (all a0 c8 cap0 zs w5 (by omega) (H0.out.below B5.out))
    cases hv : zs.all Lib.validRune
    · rw [hv] at A5
      clear hv
      go_wp2_with fail
      with_reducible refine A5.out.mono ?_
      rintro e w' ⟨rfl, rfl⟩

      have E1 := Lib.hid (encode (some ⟨g5, 0, none⟩) 0 c5 M w5 (by omega) Q5e.out.seq hMb.out)
      go_wp2_with fail
      with_reducible refine E1.out.mono ?_
      rintro e w7 ⟨v9, rfl, o9, b7⟩
      rw [encCells_eq, List.length_map] at o9
      obtain ⟨a9, c9, rfl, hc9, hs9, i9⟩ := own_bytes o9 (encNums_bytes M)
      have hl9 := encCells_le M
      rw [encCells_eq, List.length_map] at hl9
      have hm9 := HM.out
      have B7 := Lib.hid (B5.out.trans (b7.mono B5.out.size))
      have Q7 := Lib.hid (Q5e.out.below b7)
      have D7 := decode2 _ a9 c9 w7 (by rw [hs9]; omega) (by rw [hs9]; exact hc9) i9
      rw [dec_back M hMv.out, hs9, ← hm9] at D7
      have DD7 := Lib.hid D7
      clear b7 o9 i9 hs9 hl9 hm9 D7
      go_wp2_with fail
      with_reducible refine DD7.out.mono ?_
      rintro e w8 ⟨v10, rfl, nn10, o10, b8⟩
      obtain ⟨g10, c10, rfl, hc10, q10⟩ := own_some o10 nn10
      have B8 := Lib.hid (B7.out.trans (b8.mono B7.out.size))
      have Q8 := Lib.hid (Q7.out.below b8)
      have Q10 := Lib.hid q10
      clear b8 q10 o10 nn10
      have S8 := Lib.hid (same (some ⟨g10, 0, none⟩) (some ⟨g5, 0, none⟩) 0 c10 c5 M w8 (by omega) Q10.out.seq Q8.out.seq)
      go_wp2_with fail
      with_reducible refine S8.out.mono ?_
      rintro e w9 ⟨rfl, b9⟩
      have B9 := Lib.hid (B8.out.trans (b9.mono B8.out.size))
      clear b9
      go_wp2_with fail
      refine (knows w9 (Utf8Tabs_below HT.out B9.out)).mono ?_
      rintro e w10 ⟨rfl, b10⟩
      have B10 := Lib.hid (B9.out.trans (b10.mono B9.out.size))
      clear b10
      go_wp2
      go_ret
      exact ⟨rfl, B10.out⟩
    · rw [hv] at A5
      have hfx := map_fix hv
      have L5 := Lib.hid (show zs.length = c8 from H0.out.1)
      have S5 := Lib.hid (same (some ⟨g8, 0, none⟩) a0 c8 c8 cap0 zs w5 (by omega) (seq_head (by rw [← hfx]; exact Q8e.out) L5.out) (H0.out.below B5.out))
      clear hv hfx
      go_wp2_with fail
      with_reducible refine A5.out.mono ?_
      rintro e w' ⟨rfl, rfl⟩
      go_wp2_with fail
      with_reducible refine S5.out.mono ?_
      rintro e w6 ⟨rfl, b6⟩
      have B6 := Lib.hid (B5.out.trans (b6.mono B5.out.size))
      have Q5f := Lib.hid (Q5e.out.below b6)
      clear b6

      have E2 := Lib.hid (encode (some ⟨g5, 0, none⟩) 0 c5 M w6 (by omega) Q5f.out.seq hMb.out)
      go_wp2_with fail
      with_reducible refine E2.out.mono ?_
      rintro e w7 ⟨v9, rfl, o9, b7⟩
      rw [encCells_eq, List.length_map] at o9
      obtain ⟨a9, c9, rfl, hc9, hs9, i9⟩ := own_bytes o9 (encNums_bytes M)
      have hl9 := encCells_le M
      rw [encCells_eq, List.length_map] at hl9
      have hm9 := HM.out
      have B7 := Lib.hid (B6.out.trans (b7.mono B6.out.size))
      have Q7 := Lib.hid (Q5f.out.below b7)
      have D7 := decode2 _ a9 c9 w7 (by rw [hs9]; omega) (by rw [hs9]; exact hc9) i9
      rw [dec_back M hMv.out, hs9, ← hm9] at D7
      have DD7 := Lib.hid D7
      clear b7 o9 i9 hs9 hl9 hm9 D7
      go_wp2_with fail
      with_reducible refine DD7.out.mono ?_
      rintro e w8 ⟨v10, rfl, nn10, o10, b8⟩
      obtain ⟨g10, c10, rfl, hc10, q10⟩ := own_some o10 nn10
      have B8 := Lib.hid (B7.out.trans (b8.mono B7.out.size))
      have Q8 := Lib.hid (Q7.out.below b8)
      have Q10 := Lib.hid q10
      clear b8 q10 o10 nn10
      have S8 := Lib.hid (same (some ⟨g10, 0, none⟩) (some ⟨g5, 0, none⟩) 0 c10 c5 M w8 (by omega) Q10.out.seq Q8.out.seq)
      go_wp2_with fail
      with_reducible refine S8.out.mono ?_
      rintro e w9 ⟨rfl, b9⟩
      have B9 := Lib.hid (B8.out.trans (b9.mono B8.out.size))
      clear b9
      go_wp2_with fail
      refine (knows w9 (Utf8Tabs_below HT.out B9.out)).mono ?_
      rintro e w10 ⟨rfl, b10⟩
      have B10 := Lib.hid (B9.out.trans (b10.mono B9.out.size))
      clear b10
      go_wp2
      go_ret
      exact ⟨rfl, B10.out⟩
  · have S4 := Lib.hid (same (some ⟨g8, n, none⟩) (some ⟨g5, 0, none⟩) m (c8 - n) c5 M w4 (by omega) (by have h := seq_tail Q8.out L4.out HM.out.symm hc8; rw [if_neg hcn] at h; exact h) Q5d.out.seq)
    go_wp2_with fail
    with_reducible refine S4.out.mono ?_
    rintro e w5 ⟨rfl, b5⟩
    have B5 := Lib.hid (B4.out.trans (b5.mono B4.out.size))
    have Q5e := Lib.hid (Q5d.out.below b5)
    have Q8e := Lib.hid (Q8.out.below b5)
    clear b5
    have A5 := Lib.hid (all a0 n cap0 zs w5 (by omega) (H0.out.below B5.out))
    cases hv : zs.all Lib.validRune
    · rw [hv] at A5
      clear hv
      go_wp2_with fail
      with_reducible refine A5.out.mono ?_
      rintro e w' ⟨rfl, rfl⟩

      have E1 := Lib.hid (encode (some ⟨g5, 0, none⟩) m c5 M w5 (by omega) Q5e.out.seq hMb.out)
      go_wp2_with fail
      with_reducible refine E1.out.mono ?_
      rintro e w7 ⟨v9, rfl, o9, b7⟩
      rw [encCells_eq, List.length_map] at o9
      obtain ⟨a9, c9, rfl, hc9, hs9, i9⟩ := own_bytes o9 (encNums_bytes M)
      have hl9 := encCells_le M
      rw [encCells_eq, List.length_map] at hl9
      have hm9 := HM.out
      have B7 := Lib.hid (B5.out.trans (b7.mono B5.out.size))
      have Q7 := Lib.hid (Q5e.out.below b7)
      have D7 := decode2 _ a9 c9 w7 (by rw [hs9]; omega) (by rw [hs9]; exact hc9) i9
      rw [dec_back M hMv.out, hs9, ← hm9] at D7
      have DD7 := Lib.hid D7
      clear b7 o9 i9 hs9 hl9 hm9 D7
      go_wp2_with fail
      with_reducible refine DD7.out.mono ?_
      rintro e w8 ⟨v10, rfl, nn10, o10, b8⟩
      obtain ⟨g10, c10, rfl, hc10, q10⟩ := own_some o10 nn10
      have B8 := Lib.hid (B7.out.trans (b8.mono B7.out.size))
      have Q8 := Lib.hid (Q7.out.below b8)
      have Q10 := Lib.hid q10
      clear b8 q10 o10 nn10
      have S8 := Lib.hid (same (some ⟨g10, 0, none⟩) (some ⟨g5, 0, none⟩) m c10 c5 M w8 (by omega) Q10.out.seq Q8.out.seq)
      go_wp2_with fail
      with_reducible refine S8.out.mono ?_
      rintro e w9 ⟨rfl, b9⟩
      have B9 := Lib.hid (B8.out.trans (b9.mono B8.out.size))
      clear b9
      go_wp2_with fail
      refine (knows w9 (Utf8Tabs_below HT.out B9.out)).mono ?_
      rintro e w10 ⟨rfl, b10⟩
      have B10 := Lib.hid (B9.out.trans (b10.mono B9.out.size))
      clear b10
      go_wp2
      go_ret
      exact ⟨rfl, B10.out⟩
    · rw [hv] at A5
      have hfx := map_fix hv
      have L5 := Lib.hid (show zs.length = n from H0.out.1)
      have S5 := Lib.hid (same (some ⟨g8, 0, none⟩) a0 n c8 cap0 zs w5 (by omega) (seq_head (by rw [← hfx]; exact Q8e.out) L5.out) (H0.out.below B5.out))
      clear hv hfx
      go_wp2_with fail
      with_reducible refine A5.out.mono ?_
      rintro e w' ⟨rfl, rfl⟩
      go_wp2_with fail
      with_reducible refine S5.out.mono ?_
      rintro e w6 ⟨rfl, b6⟩
      have B6 := Lib.hid (B5.out.trans (b6.mono B5.out.size))
      have Q5f := Lib.hid (Q5e.out.below b6)
      clear b6

      have E2 := Lib.hid (encode (some ⟨g5, 0, none⟩) m c5 M w6 (by omega) Q5f.out.seq hMb.out)
      go_wp2_with fail
      with_reducible refine E2.out.mono ?_
      rintro e w7 ⟨v9, rfl, o9, b7⟩
      rw [encCells_eq, List.length_map] at o9
      obtain ⟨a9, c9, rfl, hc9, hs9, i9⟩ := own_bytes o9 (encNums_bytes M)
      have hl9 := encCells_le M
      rw [encCells_eq, List.length_map] at hl9
      have hm9 := HM.out
      have B7 := Lib.hid (B6.out.trans (b7.mono B6.out.size))
      have Q7 := Lib.hid (Q5f.out.below b7)
      have D7 := decode2 _ a9 c9 w7 (by rw [hs9]; omega) (by rw [hs9]; exact hc9) i9
      rw [dec_back M hMv.out, hs9, ← hm9] at D7
      have DD7 := Lib.hid D7
      clear b7 o9 i9 hs9 hl9 hm9 D7
      go_wp2_with fail
      with_reducible refine DD7.out.mono ?_
      rintro e w8 ⟨v10, rfl, nn10, o10, b8⟩
      obtain ⟨g10, c10, rfl, hc10, q10⟩ := own_some o10 nn10
      have B8 := Lib.hid (B7.out.trans (b8.mono B7.out.size))
      have Q8 := Lib.hid (Q7.out.below b8)
      have Q10 := Lib.hid q10
      clear b8 q10 o10 nn10
      have S8 := Lib.hid (same (some ⟨g10, 0, none⟩) (some ⟨g5, 0, none⟩) m c10 c5 M w8 (by omega) Q10.out.seq Q8.out.seq)
      go_wp2_with fail
      with_reducible refine S8.out.mono ?_
      rintro e w9 ⟨rfl, b9⟩
      have B9 := Lib.hid (B8.out.trans (b9.mono B8.out.size))
      clear b9
      go_wp2_with fail
      refine (knows w9 (Utf8Tabs_below HT.out B9.out)).mono ?_
      rintro e w10 ⟨rfl, b10⟩
      have B10 := Lib.hid (B9.out.trans (b10.mono B9.out.size))
      clear b10
      go_wp2
      go_ret
      exact ⟨rfl, B10.out⟩
end Go.Proofs.YtcpfillmdkhjlaaDoor
