/- The contract of slices.SortStableFunc, with the closure by which the program sorts. Conditions: the selections lie in memory, not too many. -/
import Derived.Test.YtdpmkfjomkemhaaSymC
import Derived.Test.YtdpmkfjomkemhaaRuns
namespace Go.Proofs.Ytdpmkfjomkemhaa
open Go Go.RowKit Go.Sort Go.Proofs Go.Lib

set_option maxHeartbeats 4000000 in
set_option maxRecDepth 1000000 in
theorem stable (blk off cap n : Nat) (d0 d : Array Sl) (w0 w : World) (R : R2 w0 blk off d0) (hs : d.size = d0.size) (S : W2 w0 blk off d w) (hn : d.size = n) (hsz : n ≤ 1000) :
    Calls Try.prog 28 #[.slice (some ⟨blk, off, none⟩) n cap, .int .i64 n, .func (.func 23) #[] #[]] w (SymPost w0 blk off 0 n d) := by
  have mixed := mixedTry
  have S0 := Lib.hid S
  have HN := Lib.hid hn
  have INS := Lib.hid (fun (a b : Nat) (dk : Array Sl) (W : World) (g : Good 0 n d dk) (S : W2 w0 blk off dk W) (hab : a ≤ b) (hb : b ≤ n) => (show Calls Try.prog 30 #[.slice (some ⟨blk, off, none⟩) n cap, .int .i64 a, .int .i64 b, .func (.func 23) #[] #[]] W (SymPost w0 blk off a b dk) from by
    have z : dk.size = n := g.size.trans hn
    have h := insertion blk off cap a b d0 dk w0 W R (g.size.trans hs) S hab (by omega) (by omega)
    rw [z] at h
    exact h))
  have SYM := Lib.hid (fun (a m b : Nat) (dk : Array Sl) (W : World) (g : Good 0 n d dk) (S : W2 w0 blk off dk W) (ham : a < m) (hmb : m < b) (hb : b ≤ n) (s1 : SortedIn ltS a m dk) (s2 : SortedIn ltS m b dk) => (show Calls Try.prog 31 #[.slice (some ⟨blk, off, none⟩) n cap, .int .i64 a, .int .i64 m, .int .i64 b, .func (.func 23) #[] #[]] W (SymPost w0 blk off a b dk) from by
    have z : dk.size = n := g.size.trans hn
    have h := sym blk off cap d0 w0 R (b - a) a m b dk W (Nat.le_refl _) ham hmb (by omega) (by omega) (g.size.trans hs) S s1 s2
    rw [z] at h
    exact h))
  clear R hs S hn
  go_enter Try.func28, Try.ntmps28
  go_wp2
  go_loopg [7, 8] n (fun g va vb wr => ∃ (q a b : Nat) (dk : Array Sl), va = .int .i64 a ∧ vb = .int .i64 b ∧ a ≤ n ∧ n - a ≤ g ∧ b ≤ a + 20 ∧ a + 20 ≤ b ∧ a ≤ q * 20 ∧ q * 20 ≤ a ∧ Hid (Good 0 n d dk) ∧ Hid (Firsts q dk) ∧ Hid (W2 w0 blk off dk wr))
  case atStart => exact ⟨0, 0, 20, d, by first | rfl | go_num, by first | rfl | go_num, by omega, by omega, by omega, by omega, by omega, by omega, Good.refl _ _ _, fun r i j h => by omega, S0.out⟩
  case round =>
    clear S0
    obtain ⟨q, a, b, dk, rfl, rfl, han, hg, hb1, hb2, hq1, hq2, G1, F1, S1⟩ := hrel
    by_cases hlt : b ≤ n
    · have hltz : (b : Int) ≤ (n : Int) := by omega
      have C := Lib.hid (INS.out a b dk wr G1.out S1.out (by omega) hlt)
      go_wp2_with fail
      (with_reducible refine C.out.mono ?_)
      rintro _ w1 ⟨rfl, d1, g1, s1, hw⟩
      have G2 := Lib.hid (G1.out.trans (g1.mono (Nat.zero_le _) hlt (by have := G1.out.size; have := HN.out; omega)))
      have F2 := Lib.hid (show Firsts (q + 1) d1 from firsts_step F1.out (show Good (q * 20) (q * 20 + 20) dk d1 by rwa [show q * 20 = a by omega, show a + 20 = b by omega]) (show SortedIn ltS (q * 20) (q * 20 + 20) d1 by rwa [show q * 20 = a by omega, show a + 20 = b by omega]))
      have WW := Lib.hid hw
      clear g1 s1 hw C S1 G1 F1
      go_wp2
      go_roundg (n - b)
      case measure => omega
      case rel => exact ⟨q + 1, b, b + 20, d1, by first | rfl | go_num, by first | rfl | go_num, by omega, by omega, by omega, by omega, by omega, by omega, G2.out, F2.out, WW.out⟩
    · have hltz : ¬ (b : Int) ≤ (n : Int) := by omega
      have C := Lib.hid (INS.out a n dk wr G1.out S1.out han (Nat.le_refl _))
      go_wp2_with fail
      (with_reducible refine C.out.mono ?_)
      rintro _ w1 ⟨rfl, d1, g1, s1, hw⟩
      have G2 := Lib.hid (G1.out.trans (g1.mono (Nat.zero_le _) (Nat.le_refl _) (by have := G1.out.size; have := HN.out; omega)))
      have F2 := Lib.hid (show Runs 20 n d1 from firsts_end F1.out (show n < q * 20 + 20 by omega) (show Good (q * 20) n dk d1 by rwa [show q * 20 = a by omega]) (show SortedIn ltS (q * 20) n d1 by rwa [show q * 20 = a by omega]))
      have WW := Lib.hid hw
      clear g1 s1 hw C S1 G1 F1 hq1 hq2 hb1 hb2 hlt hltz hg han
      go_wp2
      go_loopg [6, 7, 8, 9] n (fun g vs _ _ _ wr => ∃ (s : Nat) (dk : Array Sl), vs = .int .i64 s ∧ 0 < s ∧ s ≤ 2000 ∧ n - s ≤ g ∧ Hid (Good 0 n d dk) ∧ Hid (Runs s n dk) ∧ Hid (W2 w0 blk off dk wr))
      case atStart => exact ⟨20, d1, by first | rfl | go_num, by omega, by omega, by omega, G2.out, F2.out, WW.out⟩
      case round =>
        clear G2 F2 WW
        obtain ⟨s, dk, rfl, hs0, hs1, hg, G1, F1, S1⟩ := hrel
        by_cases hlt : s < n
        · have hltz : (s : Int) < (n : Int) := by omega
          have M0 := Lib.hid (mid_start F1.out)
          clear F1
          go_wp2
          go_loopg [7, 8] n (fun g va vb wr => ∃ (q a b : Nat) (dk : Array Sl), va = .int .i64 a ∧ vb = .int .i64 b ∧ a ≤ n ∧ n - a ≤ g ∧ b ≤ a + 2 * s ∧ a + 2 * s ≤ b ∧ Hid (a = q * (2 * s)) ∧ Hid (Good 0 n d dk) ∧ Hid (Mid s n q dk) ∧ Hid (W2 w0 blk off dk wr))
          case atStart => exact ⟨0, 0, 2 * s, dk, by first | rfl | go_num, by first | rfl | go_num, by omega, by omega, by omega, by omega, (Nat.zero_mul _).symm, G1.out, M0.out, S1.out⟩
          case round =>
            clear S1 G1 M0
            obtain ⟨q, a, b, dk, rfl, rfl, han, hga, hb1, hb2, HA, G1, M1, S1⟩ := hrel
            by_cases hlb : b ≤ n
            · have hlbz : (b : Int) ≤ (n : Int) := by omega
              obtain ⟨m, hm⟩ : ∃ m, m = a + s := ⟨_, rfl⟩
              have em : (a : Int) + (s : Int) = (m : Int) := by omega
              have hm1 : m ≤ a + s := by omega
              have hm2 : a + s ≤ m := by omega
              have HM := Lib.hid hm
              clear hm
              have C := Lib.hid (SYM.out a m b dk wr G1.out S1.out (by omega) (by omega) hlb (by have h := mid_left M1.out HA.out (by omega); rwa [← HM.out] at h) (by have h := mid_right M1.out HA.out hb1 hlb; rwa [← HM.out] at h))
              go_wp2_with fail
              (with_reducible refine C.out.mono ?_)
              rintro _ w1 ⟨rfl, d1, g1, s1, hw⟩
              have G2 := Lib.hid (G1.out.trans (g1.mono (Nat.zero_le _) hlb (by have := G1.out.size; have := HN.out; omega)))
              have M2 := Lib.hid (show Mid s n (q + 1) d1 from mid_step M1.out HA.out (show Good a (a + 2 * s) dk d1 by rwa [show a + 2 * s = b by omega]) (show SortedIn ltS a (a + 2 * s) d1 by rwa [show a + 2 * s = b by omega]))
              have WW := Lib.hid hw
              have HB := Lib.hid (show b = (q + 1) * (2 * s) by have := HA.out; rw [Nat.add_mul, Nat.one_mul]; omega)
              clear g1 s1 hw C S1 G1 M1
              go_wp2
              go_roundg (n - b)
              case measure => omega
              case rel => exact ⟨q + 1, b, b + 2 * s, d1, by first | rfl | go_num, by first | rfl | go_num, by omega, by omega, by omega, by omega, HB.out, G2.out, M2.out, WW.out⟩
            · have hlbz : ¬ (b : Int) ≤ (n : Int) := by omega
              obtain ⟨m, hm⟩ : ∃ m, m = a + s := ⟨_, rfl⟩
              have em : (a : Int) + (s : Int) = (m : Int) := by omega
              have hm1 : m ≤ a + s := by omega
              have hm2 : a + s ≤ m := by omega
              have HM := Lib.hid hm
              clear hm
              by_cases hmn : m < n
              · have hmnz : (m : Int) < (n : Int) := by omega
                have C := Lib.hid (SYM.out a m n dk wr G1.out S1.out (by omega) hmn (Nat.le_refl _) (by have h := mid_left M1.out HA.out (by omega); rwa [← HM.out] at h) (by have h := mid_right M1.out HA.out (show n ≤ a + 2 * s by omega) (Nat.le_refl _); rwa [← HM.out] at h))
                go_wp2_with fail
                (with_reducible refine C.out.mono ?_)
                rintro _ w1 ⟨rfl, d1, g1, s1, hw⟩
                have G2 := Lib.hid (G1.out.trans (g1.mono (Nat.zero_le _) (Nat.le_refl _) (by have := G1.out.size; have := HN.out; omega)))
                have M2 := Lib.hid (show Runs (2 * s) n d1 from mid_end1 M1.out HA.out (by omega) g1 s1)
                have WW := Lib.hid hw
                clear g1 s1 hw C S1 G1 M1
                go_wp2
                go_roundg (n - 2 * s)
                case measure => omega
                case rel => exact ⟨2 * s, d1, by first | rfl | go_num, by omega, by omega, by omega, G2.out, M2.out, WW.out⟩
              · have hmnz : ¬ (m : Int) < (n : Int) := by omega
                have M2 := Lib.hid (show Runs (2 * s) n dk from mid_end2 M1.out HA.out (by omega) (by omega))
                clear M1
                go_wp2
                go_roundg (n - 2 * s)
                case measure => omega
                case rel => exact ⟨2 * s, dk, by first | rfl | go_num, by omega, by omega, by omega, G1.out, M2.out, S1.out⟩
        · have hltz : ¬ (s : Int) < (n : Int) := by omega
          go_wp2
          go_end0
          exact ⟨rfl, dk, G1.out, runs_end F1.out (by omega), S1.out⟩
end Go.Proofs.Ytdpmkfjomkemhaa
