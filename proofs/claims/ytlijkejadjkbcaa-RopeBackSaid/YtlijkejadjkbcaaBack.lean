/- The walk of RopeBack. -/
import Derived.Test.YtlijkejadjkbcaaKnows
namespace Go.Proofs.Ytlijkejadjkbcaa
open Go Go.RowKit

theorem back_long (a c : Option Addr) (n m cap cap' : Nat) (x : Int) (w : World) (h : 500 < n ∨ (n ≤ 500 ∧ 500 < m)) :
    Calls Try.prog 4 #[.slice a n cap, .int .u16 x, .slice c m cap'] w fun e w' => e = .returned (.bool true) ∧ Below w.heap.size w w' := by
  have K := Lib.hid (knows w)
  rcases h with h | ⟨h, h'⟩
  · have hn : (500 : Int) < (n : Int) := by omega
    go_enter Try.func4, Try.ntmps4
    go_wp2_with fail
    (with_reducible refine K.out.mono ?_)
    rintro e w' ⟨rfl, hb⟩
    go_wp2
    go_ret
    exact ⟨rfl, hb⟩
  · have hn : ¬ (500 : Int) < (n : Int) := by omega
    have hm : (500 : Int) < (m : Int) := by omega
    go_enter Try.func4, Try.ntmps4
    go_wp2_with fail
    (with_reducible refine K.out.mono ?_)
    rintro e w' ⟨rfl, hb⟩
    go_wp2
    go_ret
    exact ⟨rfl, hb⟩

theorem back_wrong (a c : Option Addr) (n m cap cap' : Nat) (x : Int) (zs ys : List Int) (w : World) (hn : n ≤ 500) (hm : m ≤ 500) (hz : SeqAt .i32 w a n zs) (hy : SeqAt .i32 w c m ys) (h : zs.all Lib.validRune = false ∨ (zs.all Lib.validRune = true ∧ ys.all Lib.validRune = false)) :
    Calls Try.prog 4 #[.slice a n cap, .int .u16 x, .slice c m cap'] w fun e w' => e = .returned (.bool true) ∧ Below w.heap.size w w' := by
  have K := Lib.hid (knows w)
  have A1 := all a n cap zs w (by omega) hz
  have A2 := all c m cap' ys w (by omega) hy
  have hn : ¬ (500 : Int) < (n : Int) := by omega
  have hm : ¬ (500 : Int) < (m : Int) := by omega
  clear hz hy
  rcases h with h | ⟨h, h'⟩
  · rw [h] at A1
    have AA := Lib.hid A1
    clear A1 A2 h
    go_enter Try.func4, Try.ntmps4
    go_wp2_with fail
    (with_reducible refine AA.out.mono ?_)
    rintro e w' ⟨rfl, rfl⟩
    go_wp2_with fail
    (with_reducible refine K.out.mono ?_)
    rintro e w' ⟨rfl, hb⟩
    go_wp2
    go_ret
    exact ⟨rfl, hb⟩
  · rw [h] at A1
    rw [h'] at A2
    have AA := Lib.hid A1
    have AB := Lib.hid A2
    clear A1 A2 h h'
    go_enter Try.func4, Try.ntmps4
    go_wp2_with fail
    (with_reducible refine AA.out.mono ?_)
    rintro e w' ⟨rfl, rfl⟩
    go_wp2_with fail
    (with_reducible refine AB.out.mono ?_)
    rintro e w' ⟨rfl, rfl⟩
    go_wp2_with fail
    (with_reducible refine K.out.mono ?_)
    rintro e w' ⟨rfl, hb⟩
    go_wp2
    go_ret
    exact ⟨rfl, hb⟩

theorem back_text (zs ys : List Int) (p m : Nat) (hp : p ≤ zs.length) (hm : ys.length = m) : (zs.take p ++ ys ++ zs.drop p).take p ++ (zs.take p ++ ys ++ zs.drop p).drop (p + m) = zs := by
  rw [List.append_assoc, List.take_append_of_le_length (by rw [List.length_take]; omega), List.take_take, Nat.min_self]
  have : (zs.take p ++ (ys ++ zs.drop p)).drop (p + m) = zs.drop p := by
    rw [List.drop_append, List.drop_of_length_le (by rw [List.length_take]; omega), List.length_take, Nat.min_eq_left hp, Nat.add_sub_cancel_left, List.drop_append, List.drop_of_length_le (by omega), hm, Nat.sub_self]
    simp
  rw [this, List.take_append_drop]

set_option maxHeartbeats 4000000 in
set_option maxRecDepth 100000 in
theorem back_main (a c : Option Addr) (n m cap cap' x : Nat) (zs ys : List Int) (w : World) (hn : n ≤ 500) (hm : m ≤ 500) (hx : x ≤ 65535) (hz : SeqAt .i32 w a n zs) (hy : SeqAt .i32 w c m ys) (hna : a = none → n = 0 ∧ cap = 0) (hnc : c = none → m = 0 ∧ cap' = 0) (hvz : zs.all Lib.validRune = true) (hvy : ys.all Lib.validRune = true) :
    Calls Try.prog 4 #[.slice a n cap, .int .u16 x, .slice c m cap'] w fun e w' => e = .returned (.bool true) ∧ Below w.heap.size w w' := by
  have A1 := all a n cap zs w (by omega) hz
  have A2 := all c m cap' ys w (by omega) hy
  rw [hvz] at A1
  rw [hvy] at A2
  have AA := Lib.hid A1
  have AB := Lib.hid A2
  have OF := Lib.hid (of_good a n cap zs w (by omega) hna hz hvz)
  have HZ := Lib.hid hz
  have HY := Lib.hid hy
  have NC := Lib.hid hnc
  have VY := Lib.hid hvy
  have hn' : ¬ (500 : Int) < (n : Int) := by omega
  have hm' : ¬ (500 : Int) < (m : Int) := by omega
  clear A1 A2 hz hy hna hnc hvz hvy
  go_enter Try.func4, Try.ntmps4
  go_wp2_with fail
  (with_reducible refine AA.out.mono ?_)
  rintro e w' ⟨rfl, rfl⟩
  go_wp2_with fail
  (with_reducible refine AB.out.mono ?_)
  rintro e w' ⟨rfl, rfl⟩
  go_wp2_with fail
  (with_reducible refine OF.out.mono ?_)
  rintro e w1 ⟨rb, ns, rfl, R1, t1, hrb, b1⟩
  have B1 := Lib.hid b1
  have RR := Lib.hid R1
  have T1 := Lib.hid t1
  clear R1 t1 b1
  go_wp2_with fail
  obtain ⟨p, hp, hpn⟩ : ∃ p : Nat, (x : Int) % ((n : Int) + 1) = p ∧ p ≤ n := by
    refine ⟨x % (n + 1), by simp, ?_⟩
    have := Nat.mod_lt x (show 0 < n + 1 by omega)
    omega
  rw [hp]
  clear hp
  have ZL := Lib.hid HZ.out.1
  have IY := Lib.hid (insert_yes rb ns p c m cap' ys w1 RR.out (by rw [T1.out, ZL.out]; omega) NC.out (HY.out.below B1.out) VY.out (by rw [T1.out, ZL.out]; omega))
  (with_reducible refine IY.out.mono ?_)
  rintro e w2 ⟨ns2, rfl, R2, t2, b2, _⟩
  have B2 := Lib.hid (B1.out.trans (b2.mono hrb))
  have RR2 := Lib.hid R2
  have T2 := Lib.hid (show text ns2 = zs.take p ++ ys ++ zs.drop p by rw [t2, T1.out])
  have TL2 := Lib.hid (show (text ns2).length = n + m by
    have := ZL.out; have := HY.out.1
    rw [T2.out, List.length_append, List.length_append, List.length_take, List.length_drop]; omega)
  have DY := Lib.hid (show Calls Try.prog 12 #[.pointer (some ⟨rb, 0, none⟩), .int .i64 p, .int .i64 ((p : Int) + (m : Int))] w2 (Edited w2 rb zs) by
    have h := delete_yes rb ns2 p (p + m) w2 R2 (by omega) (by rw [TL2.out]; omega)
    rw [T2.out, back_text zs ys p m (by rw [ZL.out]; exact hpn) HY.out.1] at h
    exact h)
  clear R2 t2 b2
  go_wp2_with fail
  (with_reducible refine DY.out.mono ?_)
  rintro e w3 ⟨ns3, rfl, R3, t3, b3, _⟩
  have B3 := Lib.hid (B2.out.trans (b3.mono hrb))
  have RR3 := Lib.hid R3
  have T3 := Lib.hid t3
  have SL := Lib.hid (show Calls Try.prog 13 #[.pointer (some ⟨rb, 0, none⟩), .int .i64 0, .int .i64 n] w3 (Got w3 zs) by
    have h := slice_yes rb ns3 0 n w3 R3 (by omega) (by rw [t3, ZL.out]; exact Nat.le_refl _)
    rw [t3, List.take_of_length_le (by rw [ZL.out]; exact Nat.le_refl _)] at h
    exact h)
  clear R3 t3 b3
  go_wp2_with fail
  (with_reducible refine SL.out.mono ?_)
  rintro e w4 ⟨v, rfl, o4, b4⟩
  rw [ZL.out] at o4
  obtain ⟨a4, c4, rfl, hc4, q4⟩ := own_seq o4
  have B4 := Lib.hid (B3.out.trans (b4.mono B3.out.size))
  have RR4 := Lib.hid (RR3.out.below b4)
  have Q4 := Lib.hid q4
  have LN := Lib.hid (show Calls Try.prog 22 #[.pointer (some ⟨rb, 0, none⟩)] w4 (fun e w' => e = .returned (.int .i64 n) ∧ Below w4.heap.size w4 w') by
    have h := len rb ns3 w4 RR4.out
    rw [T3.out, ZL.out] at h
    exact h)
  clear q4 o4 b4
  go_wp2_with fail
  (with_reducible refine LN.out.mono ?_)
  rintro e w5 ⟨rfl, b5⟩
  have B5 := Lib.hid (B4.out.trans (b5.mono B4.out.size))
  have RR5 := Lib.hid (RR4.out.below b5)
  have SM := Lib.hid (same a4 a n c4 cap zs w5 (by omega) (Q4.out.below b5) (HZ.out.below B5.out))
  clear b5
  go_wp2_with fail
  (with_reducible refine SM.out.mono ?_)
  rintro e w6 ⟨rfl, b6⟩
  have B6 := Lib.hid (B5.out.trans (b6.mono B5.out.size))
  have RR6 := Lib.hid (RR5.out.below b6)
  have hbk : brk zs ≤ 500 := by have := brk_le zs; have := ZL.out; omega
  clear b6
  go_wp2_with fail
  go_loopw [14] (fun i wr => ∃ k : Nat, k ≤ brk zs + 1 ∧ i = .int .i64 k ∧ RopeAt wr rb ns3 ∧ Below w.heap.size w wr) (fun i _ => brk zs + 1 - (intOf i).toNat)
  case atStart => exact ⟨0, Nat.zero_le _, rfl, RR6.out, B6.out⟩
  case round =>
    obtain ⟨k, hk, rfl, hR, hB⟩ := hrel
    have LI := Lib.hid (show Calls Try.prog 23 #[.pointer (some ⟨rb, 0, none⟩)] wr (fun e w' => e = .returned (.int .i64 (brk zs + 1 : Nat)) ∧ Below wr.heap.size wr w') by
      have h := lines rb ns3 wr hR
      rw [T3.out] at h
      exact h)
    have R7 := Lib.hid hR
    have B7 := Lib.hid hB
    clear hR hB
    obtain ⟨bz, hbz⟩ : ∃ b, b = brk zs := ⟨_, rfl⟩
    have LI' := LI.out
    rw [← hbz] at hk hbk LI'
    have LJ := Lib.hid LI'
    have BZ := Lib.hid hbz
    clear LI LI' hbz
    go_wp2_with fail
    (with_reducible refine LJ.out.mono ?_)
    rintro e w8 ⟨rfl, b8⟩
    have B8 := Lib.hid (B7.out.trans (b8.mono B7.out.size))
    have R8 := Lib.hid (R7.out.below b8)
    clear b8
    by_cases hlt : k < bz + 1
    · have hkz : (k : Int) < (bz : Int) + 1 := by omega
      have hkb : k ≤ brk (text ns3) := by have := BZ.out; rw [T3.out]; omega
      have ST := start_yes rb ns3 k w8 R8.out hkb
      have hbl := beh_le zs k
      have hln := line_yes rb ns3 (beh (text ns3) k)
      have hbb := brk_beh (text ns3) k hkb
      have LL := Lib.hid (fun (w : World) (h : RopeAt w rb ns3) => by
        have h2 := hln w h (beh_le _ _)
        rw [hbb] at h2
        exact h2)
      obtain ⟨q, hq⟩ : ∃ q, q = beh (text ns3) k := ⟨_, rfl⟩
      have L2 := LL.out
      rw [← hq] at ST L2
      have SS := Lib.hid ST
      have L3 := Lib.hid L2
      clear ST L2 LL hln hbb hq hbl hkb
      go_wp2_with fail
      (with_reducible refine SS.out.mono ?_)
      rintro e w9 ⟨rfl, b9⟩
      have B9 := Lib.hid (B8.out.trans (b9.mono B8.out.size))
      have R9 := Lib.hid (R8.out.below b9)
      have L4 := Lib.hid (L3.out w9 R9.out)
      clear b9
      go_wp2_with fail
      (with_reducible refine L4.out.mono ?_)
      rintro e w10 ⟨rfl, b10⟩
      have B10 := Lib.hid (B9.out.trans (b10.mono B9.out.size))
      have R10 := Lib.hid (R9.out.below b10)
      clear b10
      go_wp2
      go_roundw
      case rel => exact ⟨k + 1, by have := BZ.out; omega, by go_num, R10.out, B10.out⟩
      case measure => have := BZ.out; simp [intOf]; omega
    · have hkz : ¬ (k : Int) < (bz : Int) + 1 := by omega
      have KN := Lib.hid (knows w8)
      go_wp2_with fail
      (with_reducible refine KN.out.mono ?_)
      rintro e w9 ⟨rfl, b9⟩
      have B9 := Lib.hid (B8.out.trans (b9.mono B8.out.size))
      clear b9
      go_wp2
      go_ret
      exact ⟨rfl, B9.out⟩
end Go.Proofs.Ytlijkejadjkbcaa
