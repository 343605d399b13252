/- The sort's merge, where the second run is one selection. Conditions: the runs lie in the slice. -/
import Derived.Test.YtdpmkfjomkemhaaSymA
namespace Go.Proofs.Ytdpmkfjomkemhaa
open Go Go.RowKit Go.Sort Go.Proofs Go.Lib

set_option maxHeartbeats 4000000 in
set_option maxRecDepth 1000000 in
/-- One that stands behind a sorted run. -/
theorem sym_right (blk off cap a m : Nat) (d0 d : Array Sl) (w0 w : World) (R : R2 w0 blk off d0) (hs : d.size = d0.size) (S : W2 w0 blk off d w) (ham : a + 1 < m) (hb : m + 1 ≤ d.size) (hsz : d.size ≤ 1000) (h2 : SortedIn ltS a m d) :
    Calls Try.prog 31 #[.slice (some ⟨blk, off, none⟩) d.size cap, .int .i64 a, .int .i64 m, .int .i64 ((m + 1 : Nat) : Int), .func (.func 23) #[] #[]] w fun e w' => e = .returned (.tuple #[]) ∧ ∃ d', Good a (m + 1) d d' ∧ SortedIn ltS a (m + 1) d' ∧ W2 w0 blk off d' w' := by
  have mixed := mixedTry
  have S0 := Lib.hid S
  have HR := Lib.hid R
  have HS := Lib.hid hs
  have H2 := Lib.hid h2
  clear S R hs h2
  obtain ⟨b, hm⟩ : ∃ b, b = m + 1 := ⟨_, rfl⟩
  rw [← hm] at hb
  rw [← hm]
  have em : (b : Int) - (m : Int) = 1 := by omega
  have en : ((m : Int) - (a : Int) == 1) = false := by simp; omega
  have hma : a < m := by omega
  have hmb : m < b := by omega
  have HM := Lib.hid hm
  clear hm ham
  go_enter Try.func31, Try.ntmps31
  go_wp2
  go_loopg [14, 15, 16] m (fun g vi vj _ wr => ∃ (i j : Nat), vi = .int .i64 i ∧ vj = .int .i64 j ∧ a ≤ i ∧ i ≤ j ∧ j ≤ m ∧ j - i ≤ g ∧ Hid ((∀ t, a ≤ t → t < i → ltS d[m]! d[t]! = false) ∧ (∀ t, j ≤ t → t < m → ltS d[m]! d[t]! = true)) ∧ Hid (W2 w0 blk off d wr))
  case atStart => exact ⟨a, m, by first | rfl | go_num, by first | rfl | go_num, by omega, by omega, by omega, by omega, ⟨fun t h1 h2 => by omega, fun t h1 h2 => by omega⟩, S0.out⟩
  case round =>
    obtain ⟨i, j, rfl, rfl, hmi, hij, hjb, hg, HL, S1⟩ := hrel
    by_cases hlt : i < j
    · have hltz : (i : Int) < (j : Int) := by omega
      obtain ⟨h, hh⟩ : ∃ h, h = (i + j) / 2 := ⟨_, rfl⟩
      have hhi : i ≤ h := by omega
      have hhj : h < j := by omega
      have eh : ((i : Int) + (j : Int)) / 2 = (h : Int) := by omega
      clear hh
      have hz0 : (0 : Int) ≤ (h : Int) := by omega
      have hzd : (h : Int) < (d.size : Int) := by omega
      have ha0 : (0 : Int) ≤ (m : Int) := by omega
      have had : (m : Int) < (d.size : Int) := by omega
      obtain ⟨f1, f2, f3, f4, fc⟩ := test_facts S1.out HR.out HS.out m h (by omega) (by omega)
      have LE := Lib.hid (fun (t : Nat) (h1 : a ≤ t) (h2 : t ≤ h) => le_of_sorted H2.out t h h1 h2 (show h < m by omega))
      have GE := Lib.hid (fun (t : Nat) (h1 : h ≤ t) (h2 : t < m) => le_of_sorted H2.out h t (by omega) h1 h2)
      cases hc : ltS d[m]! d[h]! with
      | true =>
        have hv : cfS d[m]! d[h]! < 0 := of_decide_eq_true hc
        have HC := Lib.hid hc
        clear hc
        generalize cfS d[m]! d[h]! = cv at fc hv
        generalize d[m]!.a = xa at f1 fc
        generalize d[m]!.h = xh at f2 fc
        generalize d[h]!.a = ya at f3 fc
        generalize d[h]!.h = yh at f4 fc
        go_wp2_with fail
        go_quiet_grown (first | (go_at_call 23; refine fc _ _))
        have S2 := Lib.hid (SWK.grown S1.out nq osq)
        clear f1 f2 f3 f4 fc S1
        generalize grow (wr.drewN nq) osq = w2 at S2 ⊢
        go_wp2
        go_roundg (h - i)
        case measure => omega
        case rel => exact ⟨i, h, by first | rfl | go_num, by first | rfl | go_num, by omega, by omega, by omega, by omega, ⟨HL.out.1, fun t h1 h2 => by
          have := GE.out t h1 h2
          have := HC.out
          rw [ltS_iff] at *
          rw [ltS_not] at *
          omega⟩, S2.out⟩
      | false =>
        have hv : ¬ cfS d[m]! d[h]! < 0 := of_decide_eq_false hc
        have HC := Lib.hid hc
        clear hc
        generalize cfS d[m]! d[h]! = cv at fc hv
        generalize d[m]!.a = xa at f1 fc
        generalize d[m]!.h = xh at f2 fc
        generalize d[h]!.a = ya at f3 fc
        generalize d[h]!.h = yh at f4 fc
        have hv2 : decide (cv < 0) = false := decide_eq_false hv
        have hv3 : (0 : Int) ≤ cv := by omega
        go_wp2_with fail
        go_quiet_grown (first | (go_at_call 23; refine fc _ _))
        have S2 := Lib.hid (SWK.grown S1.out nq osq)
        clear f1 f2 f3 f4 fc S1
        generalize grow (wr.drewN nq) osq = w2 at S2 ⊢
        go_wp2
        go_roundg (j - (h + 1))
        case measure => omega
        case rel => exact ⟨h + 1, j, by first | rfl | go_num, by first | rfl | go_num, by omega, by omega, by omega, by omega, ⟨fun t h1 h2 => by
          have := LE.out t h1 (by omega)
          have := HC.out
          rw [ltS_not] at *
          omega, HL.out.2⟩, S2.out⟩
    · obtain rfl : i = j := by omega
      have hltz : ¬ (i : Int) < (i : Int) := by omega
      have H1 := Lib.hid hmi
      go_wp2
      go_loopg [17] m (fun g vk wr => ∃ (k : Nat) (dk : Array Sl), vk = .int .i64 k ∧ i ≤ k ∧ k ≤ m ∧ k ≤ g ∧ Hid (Rot k m (m + 1) d dk) ∧ Hid (W2 w0 blk off dk wr))
      case atStart => exact ⟨m, d, by first | rfl | go_num, by omega, by omega, by omega, Rot.self d m m (m + 1) (.inl rfl) (by omega) (by omega), S1.out⟩
      case round =>
        clear S1
        obtain ⟨k, dk, rfl, hak, hki, hg, HK, S1⟩ := hrel
        by_cases hlt : i < k
        · have hltz : (i : Int) < (k : Int) := by omega
          obtain ⟨q, hq⟩ : ∃ q, k = q + 1 := ⟨k - 1, by omega⟩
          have eq : (k : Int) - 1 = (q : Int) := by omega
          have hkd : (k : Int) < (d.size : Int) := by have := HM.out; omega
          have hqd : (q : Int) < (d.size : Int) := by omega
          have hsd : dk.size = d.size := HK.out.1
          have hsD : dk.size = d0.size := hsd.trans HS.out
          have E := Lib.hid (show Rot q m (m + 1) d (swp dk k q) by rw [hq]; have h := HK.out; rw [hq] at h; exact rot_left h (by omega) (by have := HM.out; omega))
          have HQ := Lib.hid hq
          have c1 := S1.out.cells HR.out hsD k (by omega)
          have c2 := S1.out.cells HR.out hsD q (by omega)
          have c3 := swap_facts S1.out HR.out hsD k q (by omega) (by omega) (by omega)
          clear hq
          generalize dk[k]!.a = xa at c1 c3
          generalize dk[k]!.h = xh at c1 c3
          generalize dk[q]!.a = ya at c2 c3
          generalize dk[q]!.h = yh at c2 c3
          obtain ⟨⟨p1, p2⟩, p3, p4⟩ := c1
          obtain ⟨⟨q1, q2⟩, q3, q4⟩ := c2
          obtain ⟨r1, r2, r3, r4⟩ := c3
          have S2 := Lib.hid r4
          clear r4 S1 hsd hsD
          go_wp2_with fail
          go_big_region_o
          generalize (((((wr.setCell _ _).setCell _ _).setCell _ _).setCell _ _).drew) = w3 at S2 ⊢
          clear p1 p2 p3 p4 q1 q2 q3 q4 r1 r2 r3
          go_wp2
          go_roundg q
          case measure => have := HQ.out; omega
          case rel => exact ⟨q, swp dk k q, by first | rfl | go_num, by have := HQ.out; omega, by have := HQ.out; omega, by omega, E.out, S2.out⟩
        · have hltz : ¬ (i : Int) < (k : Int) := by omega
          have HI := Lib.hid (show k = i by omega)
          go_wp2
          refine bodyPost_ret (results_none rfl _ _ _) rfl ?_
          have hr : Rot i m (m + 1) d dk := by have := HK.out; rwa [HI.out] at this
          have g := one_right hr hmi hjb (by have := HM.out; omega) H2.out HL.out.1 HL.out.2
          rw [← HM.out] at g
          exact ⟨rfl, dk, g.1, g.2, S1.out⟩
end Go.Proofs.Ytdpmkfjomkemhaa
