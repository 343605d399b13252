/- The contract of the sort's merge of two sorted runs that lie side by side. Conditions: they lie in the slice, and neither is empty. -/
import Derived.Test.YtdpmkfjomkemhaaSymB
import Derived.Deep.CutBlock
import Derived.Deep.CutRange
namespace Go.Proofs.Ytdpmkfjomkemhaa
open Go Go.RowKit Go.Sort Go.Proofs Go.Lib

/-- What the merge says. -/
def SymPost (w0 : World) (blk off a b : Nat) (d : Array Sl) : Ending → World → Prop := fun e w' => e = .returned (.tuple #[]) ∧ ∃ d', Good a b d d' ∧ SortedIn ltS a b d' ∧ W2 w0 blk off d' w'

set_option maxHeartbeats 4000000 in
set_option maxRecDepth 1000000 in
theorem sym_great (N blk off cap : Nat) (d0 : Array Sl) (w0 : World) (R : R2 w0 blk off d0)
    (ih : ∀ (a m b : Nat) (d : Array Sl) (w : World), b - a ≤ N → a < m → m < b → b ≤ d.size → d.size ≤ 1000 → d.size = d0.size → W2 w0 blk off d w → SortedIn ltS a m d → SortedIn ltS m b d →
      Calls Try.prog 31 #[.slice (some ⟨blk, off, none⟩) d.size cap, .int .i64 a, .int .i64 m, .int .i64 b, .func (.func 23) #[] #[]] w (SymPost w0 blk off a b d))
    (a m b : Nat) (d : Array Sl) (w : World) (hN : b - a ≤ N + 1) (ham : a + 1 < m) (hmb : m + 1 < b) (hb : b ≤ d.size) (hsz : d.size ≤ 1000) (hs : d.size = d0.size) (S : W2 w0 blk off d w) (h1 : SortedIn ltS a m d) (h2 : SortedIn ltS m b d) :
    Calls Try.prog 31 #[.slice (some ⟨blk, off, none⟩) d.size cap, .int .i64 a, .int .i64 m, .int .i64 b, .func (.func 23) #[] #[]] w (SymPost w0 blk off a b d) := by
  have mixed := mixedTry
  have S0 := Lib.hid S
  have HR := Lib.hid R
  have HS := Lib.hid hs
  have H1 := Lib.hid h1
  have H2 := Lib.hid h2
  have IH := Lib.hid ih
  clear S R hs h1 h2 ih
  have en : ((m : Int) - (a : Int) == 1) = false := by simp; omega
  have em : ((b : Int) - (m : Int) == 1) = false := by simp; omega
  obtain ⟨mid, hmid⟩ : ∃ mid, mid = (a + b) / 2 := ⟨_, rfl⟩
  have emid : ((a : Int) + (b : Int)) / 2 = (mid : Int) := by omega
  have k1 : 2 * mid ≤ a + b := by omega
  have k2 : a + b ≤ 2 * mid + 1 := by omega
  clear hmid
  obtain ⟨n, hn⟩ : ∃ n, n = mid + m := ⟨_, rfl⟩
  have enn : (mid : Int) + (m : Int) = (n : Int) := by omega
  have hn1 : n ≤ mid + m := by omega
  have hn2 : mid + m ≤ n := by omega
  have hn3 : (n : Int) ≤ 2000 := by omega
  clear hn
  go_enter Try.func31, Try.ntmps31
  go_upto_if 140 with fail
  go_cut [20, 21] from 138 to 146 (fun s20 s21 wx => (∃ s0 r0 : Nat, s20 = .int .i64 s0 ∧ s21 = .int .i64 r0 ∧ a ≤ s0 ∧ s0 ≤ r0 ∧ r0 ≤ m ∧ r0 ≤ mid ∧ n ≤ s0 + b ∧ (s0 = a ∨ s0 + b = n) ∧ (r0 = m ∨ r0 = mid)) ∧ w = wx)
  case first =>
    by_cases hmm : mid < m
    · have hz : (mid : Int) < (m : Int) := by omega
      have e1 : IntKind.i64.wrap ((n : Int) - (b : Int)) = ((n - b : Nat) : Int) := by rw [IntKind.wrap_i64]; omega
      go_wp2_with fail
      go_meet
      case rel => exact ⟨⟨n - b, mid, by first | rfl | go_num, rfl, by omega, by omega, by omega, by omega, by omega, by omega, by omega⟩, rfl⟩
    · have hz : ¬ (mid : Int) < (m : Int) := by omega
      go_wp2_with fail
      go_meet
      case rel => exact ⟨⟨a, m, by first | rfl | trivial, by first | rfl | trivial, by omega, by omega, by omega, by omega, by omega, by omega, by omega⟩, by first | rfl | trivial⟩
  case rest =>
    obtain ⟨⟨s0, r0, rfl, rfl, t1, t2, t3, t4, t5, t6, t7⟩, rfl⟩ := hcut
    obtain ⟨p, hp⟩ : ∃ p, n = p + 1 := ⟨n - 1, by omega⟩
    have epp : (n : Int) - 1 = (p : Int) := by omega
    have hp1 : n ≤ p + 1 := by omega
    have hp2 : p + 1 ≤ n := by omega
    clear hp
    go_wp2_with fail
    go_loopg [20, 21, 23] (r0 - s0) (fun g v20 v21 _ wr => ∃ s r : Nat, v20 = .int .i64 s ∧ v21 = .int .i64 r ∧ s0 ≤ s ∧ s ≤ r ∧ r ≤ r0 ∧ r - s ≤ g ∧ Hid ((∀ c, s0 ≤ c → c < s → ltS d[p - c]! d[c]! = false) ∧ (∀ c, r ≤ c → c < r0 → ltS d[p - c]! d[c]! = true)) ∧ Hid (W2 w0 blk off d wr))
    case atStart => exact ⟨s0, r0, by first | rfl | go_num, by first | rfl | go_num, by omega, by omega, by omega, by omega, ⟨fun t h1 h2 => by omega, fun t h1 h2 => by omega⟩, S0.out⟩
    case round =>
      clear S0
      obtain ⟨s, r, rfl, rfl, u1, u2, u3, hg, HL, S1⟩ := hrel
      by_cases hlt : s < r
      · have hltz : (s : Int) < (r : Int) := by omega
        obtain ⟨c, hc⟩ : ∃ c, c = (s + r) / 2 := ⟨_, rfl⟩
        have hc1 : s ≤ c := by omega
        have hc2 : c < r := by omega
        have ec : ((s : Int) + (r : Int)) / 2 = (c : Int) := by omega
        clear hc
        obtain ⟨q, hq⟩ : ∃ q, q = p - c := ⟨_, rfl⟩
        have eq : (p : Int) - (c : Int) = (q : Int) := by omega
        have hq1 : m ≤ q := by omega
        have hq2 : q < b := by omega
        have HQ := Lib.hid hq
        clear hq
        have hz0 : (0 : Int) ≤ (c : Int) := by omega
        have hzd : (c : Int) < (d.size : Int) := by omega
        have hq0 : (0 : Int) ≤ (q : Int) := by omega
        have hqd : (q : Int) < (d.size : Int) := by omega
        have wq' : IntKind.i64.wrap (q : Int) = (q : Int) := by rw [IntKind.wrap_i64]; omega
        obtain ⟨f1, f2, f3, f4, fc⟩ := test_facts S1.out HR.out HS.out q c (by omega) (by omega)
        have LE := Lib.hid (fun (t : Nat) (h1 : s0 ≤ t) (h2 : t ≤ c) => And.intro (le_of_sorted H1.out t c (by omega) h2 (by omega)) (le_of_sorted H2.out q (p - t) hq1 (by have := HQ.out; omega) (by omega)))
        have GE := Lib.hid (fun (t : Nat) (h1 : c ≤ t) (h2 : t < r0) => And.intro (le_of_sorted H1.out c t (by omega) h1 (by omega)) (le_of_sorted H2.out (p - t) q (by omega) (by have := HQ.out; omega) hq2))
        cases hc : ltS d[q]! d[c]! with
        | true =>
          have hv : cfS d[q]! d[c]! < 0 := of_decide_eq_true hc
          have HC := Lib.hid hc
          clear hc
          generalize cfS d[q]! d[c]! = cv at fc hv
          generalize d[q]!.a = xa at f1 fc
          generalize d[q]!.h = xh at f2 fc
          generalize d[c]!.a = ya at f3 fc
          generalize d[c]!.h = yh at f4 fc
          have hv2 : decide (cv < 0) = true := decide_eq_true hv
          go_wp2_with fail
          go_quiet_grown (first | (go_at_call 23; refine fc _ _))
          have S2 := Lib.hid (SWK.grown S1.out nq osq)
          clear f1 f2 f3 f4 fc S1
          generalize grow (wr.drewN nq) osq = w2 at S2 ⊢
          go_wp2
          go_roundg (c - s)
          case measure => omega
          case rel => exact ⟨s, c, by first | rfl | go_num, by first | rfl | go_num, by omega, by omega, by omega, by omega, ⟨HL.out.1, fun t h1 h2 => by
            have := (GE.out t h1 h2).1
            have := (GE.out t h1 h2).2
            have := HC.out
            rw [ltS_iff] at *
            rw [ltS_not] at *
            omega⟩, S2.out⟩
        | false =>
          have hv : ¬ cfS d[q]! d[c]! < 0 := of_decide_eq_false hc
          have HC := Lib.hid hc
          clear hc
          generalize cfS d[q]! d[c]! = cv at fc hv
          generalize d[q]!.a = xa at f1 fc
          generalize d[q]!.h = xh at f2 fc
          generalize d[c]!.a = ya at f3 fc
          generalize d[c]!.h = yh at f4 fc
          have hv2 : decide (cv < 0) = false := decide_eq_false hv
          have hv3 : (0 : Int) ≤ cv := by omega
          go_wp2_with fail
          go_quiet_grown (first | (go_at_call 23; refine fc _ _))
          have S2 := Lib.hid (SWK.grown S1.out nq osq)
          clear f1 f2 f3 f4 fc S1
          generalize grow (wr.drewN nq) osq = w2 at S2 ⊢
          go_wp2
          go_roundg (r - (c + 1))
          case measure => omega
          case rel => exact ⟨c + 1, r, by first | rfl | go_num, by first | rfl | go_num, by omega, by omega, by omega, by omega, ⟨fun t h1 h2 => by
            have := (LE.out t h1 (by omega)).1
            have := (LE.out t h1 (by omega)).2
            have := HC.out
            rw [ltS_not] at *
            omega, HL.out.2⟩, S2.out⟩
      · obtain rfl : s = r := by omega
        have hltz : ¬ (s : Int) < (s : Int) := by omega
        obtain ⟨e, he⟩ : ∃ e, e = n - s := ⟨_, rfl⟩
        have ee : (n : Int) - (s : Int) = (e : Int) := by omega
        have e1 : m ≤ e := by omega
        have e2 : e ≤ b := by omega
        have e3 : s + e ≤ n := by omega
        have e4 : n ≤ s + e := by omega
        clear he
        have PT := Lib.hid (fun d1 (hr : Rot s m e d d1) => parted hr (show s + e = mid + m by omega) (show a ≤ s by omega) (by omega) e1 e2 hb H1.out H2.out
          (fun z1 z2 => by have := HL.out.2 s (Nat.le_refl _) (by omega); rwa [show p - s = e - 1 by omega] at this)
          (fun z1 z2 => by have := HL.out.1 (s - 1) (by omega) (by omega); rwa [show p - (s - 1) = e by omega] at this))
        clear HL
        have q1 : a ≤ s := by omega
        have q2 : s ≤ m := by omega
        have q3 : s ≤ mid := by omega
        have q4 : mid ≤ e := by omega
        clear t1 t2 t3 t4 t5 t6 t7 u1 u2 u3 hg hlt
        go_upto_region 39 with fail
        go_cut [185] from 178 to 184 (fun sb wx => sb = .bool (decide (s < m) && decide (m < e)) ∧ wr = wx)
        case first =>
          by_cases z1 : s < m
          · have z1i : (s : Int) < (m : Int) := by omega
            have d1 : decide (s < m) = true := decide_eq_true z1
            have D1 := Lib.hid d1
            clear d1
            by_cases z2 : m < e
            · have z2i : (m : Int) < (e : Int) := by omega
              have D2 := Lib.hid (show decide (m < e) = true from decide_eq_true z2)
              go_wp2_with fail
              go_meet
              case rel => exact ⟨by rw [D1.out, D2.out]; first | rfl | trivial, by first | rfl | trivial⟩
            · have z2i : ¬ (m : Int) < (e : Int) := by omega
              have D2 := Lib.hid (show decide (m < e) = false from decide_eq_false z2)
              go_wp2_with fail
              go_meet
              case rel => exact ⟨by rw [D1.out, D2.out]; first | rfl | trivial, by first | rfl | trivial⟩
          · have z1i : ¬ (s : Int) < (m : Int) := by omega
            have D1 := Lib.hid (show decide (s < m) = false from decide_eq_false z1)
            go_wp2_with fail
            go_meet
            case rel => exact ⟨by rw [D1.out]; first | rfl | trivial, by first | rfl | trivial⟩
        case rest =>
          obtain ⟨rfl, rfl⟩ := hcut
          go_upto_if 185 with fail
          go_cut [] from 185 to 191 (fun wx => ∃ d1, Hid (Rot s m e d d1) ∧ Hid (W2 w0 blk off d1 wx))
          case first =>
            by_cases z1 : s < m
            · have z1i : (s : Int) < (m : Int) := by omega
              by_cases z2 : m < e
              · have z2i : (m : Int) < (e : Int) := by omega
                have C := Lib.hid (rotate blk off cap s m e (.func (.func 23) #[] #[]) d0 d w0 wr HR.out HS.out S1.out z1 z2 (by omega) hsz)
                go_wp2_with fail
                (with_reducible refine C.out.mono ?_)
                rintro _ w1 ⟨rfl, d1, hr, hw⟩
                have RR := Lib.hid hr
                have WW := Lib.hid hw
                clear hr hw C S1
                go_wp2_with fail
                go_meet
                case rel => exact ⟨d1, RR.out, WW.out⟩
              · have z2i : ¬ (m : Int) < (e : Int) := by omega
                have HE := Lib.hid (show m = e by omega)
                go_wp2_with fail
                go_meet
                case rel => exact ⟨d, Rot.self d s m e (.inr HE.out) q2 e1, S1.out⟩
            · have z1i : ¬ (s : Int) < (m : Int) := by omega
              have HE := Lib.hid (show s = m by omega)
              go_wp2_with fail
              go_meet
              case rel => exact ⟨d, Rot.self d s m e (.inl HE.out) q2 e1, S1.out⟩
          case rest =>
            obtain ⟨d1, hr, hw1⟩ := hcut
            have z := hr.out.1
            have PT1 := Lib.hid (PT.out d1 hr.out)
            clear S1 hr PT
            go_upto_region 41 with fail
            go_cut [199] from 192 to 198 (fun sb wx => sb = .bool (decide (a < s) && decide (s < mid)) ∧ wc = wx)
            case first =>
              by_cases z1 : a < s
              · have z1i : (a : Int) < (s : Int) := by omega
                have d1 : decide (a < s) = true := decide_eq_true z1
                have D1 := Lib.hid d1
                clear d1
                by_cases z2 : s < mid
                · have z2i : (s : Int) < (mid : Int) := by omega
                  have D2 := Lib.hid (show decide (s < mid) = true from decide_eq_true z2)
                  go_wp2_with fail
                  go_meet
                  case rel => exact ⟨by rw [D1.out, D2.out]; first | rfl | trivial, by first | rfl | trivial⟩
                · have z2i : ¬ (s : Int) < (mid : Int) := by omega
                  have D2 := Lib.hid (show decide (s < mid) = false from decide_eq_false z2)
                  go_wp2_with fail
                  go_meet
                  case rel => exact ⟨by rw [D1.out, D2.out]; first | rfl | trivial, by first | rfl | trivial⟩
              · have z1i : ¬ (a : Int) < (s : Int) := by omega
                have D1 := Lib.hid (show decide (a < s) = false from decide_eq_false z1)
                go_wp2_with fail
                go_meet
                case rel => exact ⟨by rw [D1.out]; first | rfl | trivial, by first | rfl | trivial⟩
            case rest =>
              obtain ⟨rfl, rfl⟩ := hcut
              go_upto_if 199 with fail
              go_cut [] from 199 to 205 (fun wx => ∃ d2, Hid (Good a mid d1 d2) ∧ Hid (SortedIn ltS a mid d2) ∧ Hid (W2 w0 blk off d2 wx))
              case first =>
                by_cases z1 : a < s
                · have z1i : (a : Int) < (s : Int) := by omega
                  by_cases z2 : s < mid
                  · have z2i : (s : Int) < (mid : Int) := by omega
                    have C := Lib.hid (show Calls Try.prog 31 #[.slice (some ⟨blk, off, none⟩) d.size cap, .int .i64 a, .int .i64 s, .int .i64 mid, .func (.func 23) #[] #[]] wc (SymPost w0 blk off a mid d1) by
                      rw [← z]
                      exact IH.out a s mid d1 wc (by omega) z1 z2 (by omega) (by omega) (z.trans HS.out) hw1.out PT1.out.2.1 PT1.out.2.2.1)
                    go_wp2_with fail
                    (with_reducible refine C.out.mono ?_)
                    rintro _ w1 ⟨rfl, d2, g1, g2, hw⟩
                    have G1 := Lib.hid g1
                    have G2 := Lib.hid g2
                    have WW := Lib.hid hw
                    clear g1 g2 hw C hw1
                    go_wp2_with fail
                    go_meet
                    case rel => exact ⟨d2, G1.out, G2.out, WW.out⟩
                  · have z2i : ¬ (s : Int) < (mid : Int) := by omega
                    have HE := Lib.hid (show s = mid by omega)
                    go_wp2_with fail
                    go_meet
                    case rel => exact ⟨d1, Good.refl a mid d1, by have := PT1.out.2.1; rwa [HE.out] at this, hw1⟩
                · have z1i : ¬ (a : Int) < (s : Int) := by omega
                  have HE := Lib.hid (show s = a by omega)
                  go_wp2_with fail
                  go_meet
                  case rel => exact ⟨d1, Good.refl a mid d1, by have := PT1.out.2.2.1; rwa [HE.out] at this, hw1⟩
              case rest =>
                obtain ⟨d2, g1, g2, hw2⟩ := hcut
                have z2 := g1.out.size
                have s3 := Lib.hid (show SortedIn ltS mid e d2 from fun i j p1 p2 p3 => by rw [g1.out.out (.inr (by omega)), g1.out.out (t := i) (.inr p1)]; exact PT1.out.2.2.2.1 i j p1 p2 p3)
                have s4 := Lib.hid (show SortedIn ltS e b d2 from fun i j p1 p2 p3 => by rw [g1.out.out (.inr (by omega)), g1.out.out (t := i) (.inr (by omega))]; exact PT1.out.2.2.2.2.1 i j p1 p2 p3)
                have FIN := Lib.hid (fun (d3 : Array Sl) (g3 : Good mid b d2 d3) (g4 : SortedIn ltS mid b d3) => (show Good a b d d3 ∧ SortedIn ltS a b d3 from by
                  have h := halves (by omega) (by omega) (by omega) g1.out g3 g2.out g4 PT1.out.2.2.2.2.2
                  exact ⟨PT1.out.1.trans h.1, h.2⟩))
                clear g1 g2 PT1 hw1
                by_cases y1 : mid < e
                · have y1i : (mid : Int) < (e : Int) := by omega
                  by_cases y2 : e < b
                  · have y2i : (e : Int) < (b : Int) := by omega
                    have hzz : d2.size = d.size := z2.trans z
                    have C := Lib.hid (fun W (hw : W2 w0 blk off d2 W) => (show Calls Try.prog 31 #[.slice (some ⟨blk, off, none⟩) d.size cap, .int .i64 mid, .int .i64 e, .int .i64 b, .func (.func 23) #[] #[]] W (SymPost w0 blk off mid b d2) by
                      rw [← hzz]
                      exact IH.out mid e b d2 W (by omega) y1 y2 (by omega) (by omega) (hzz.trans HS.out) hw s3.out s4.out))
                    clear hzz z z2
                    go_wp2_with fail
                    (with_reducible refine (C.out _ hw2.out).mono ?_)
                    rintro _ w1 ⟨rfl, d3, g1, g2, hw⟩
                    have F := Lib.hid (FIN.out d3 g1 g2)
                    have WW := Lib.hid hw
                    clear g1 g2 hw C hw2
                    go_wp2
                    refine bodyPost_end (results_none rfl _ _ _) rfl ?_
                    exact ⟨rfl, d3, F.out.1, F.out.2, WW.out⟩
                  · have y2i : ¬ (e : Int) < (b : Int) := by omega
                    have F := Lib.hid (FIN.out d2 (Good.refl _ _ _) (by have := s3.out; rwa [show e = b by omega] at this))
                    clear z z2
                    go_wp2
                    refine bodyPost_end (results_none rfl _ _ _) rfl ?_
                    exact ⟨rfl, d2, F.out.1, F.out.2, hw2.out⟩
                · have y1i : ¬ (mid : Int) < (e : Int) := by omega
                  have F := Lib.hid (FIN.out d2 (Good.refl _ _ _) (by have := s4.out; rwa [show e = mid by omega] at this))
                  clear z z2
                  go_wp2
                  refine bodyPost_end (results_none rfl _ _ _) rfl ?_
                  exact ⟨rfl, d2, F.out.1, F.out.2, hw2.out⟩

/-- The merge. -/
theorem sym (blk off cap : Nat) (d0 : Array Sl) (w0 : World) (R : R2 w0 blk off d0) : ∀ (N a m b : Nat) (d : Array Sl) (w : World), b - a ≤ N → a < m → m < b → b ≤ d.size → d.size ≤ 1000 → d.size = d0.size → W2 w0 blk off d w → SortedIn ltS a m d → SortedIn ltS m b d →
      Calls Try.prog 31 #[.slice (some ⟨blk, off, none⟩) d.size cap, .int .i64 a, .int .i64 m, .int .i64 b, .func (.func 23) #[] #[]] w (SymPost w0 blk off a b d)
  | 0, a, m, b, d, w, h, h1, h2, _, _, _, _, _, _ => by omega
  | N + 1, a, m, b, d, w, h, h1, h2, hb, hsz, hs, S, s1, s2 => by
    by_cases c1 : m = a + 1
    · subst c1
      exact sym_left blk off cap a b d0 d w0 w R hs S h2 hb hsz s2
    · by_cases c2 : b = m + 1
      · subst c2
        exact sym_right blk off cap a m d0 d w0 w R hs S (by omega) hb hsz s1
      · exact sym_great N blk off cap d0 w0 R (sym blk off cap d0 w0 R N) a m b d w h (by omega) (by omega) hb hsz hs S s1 s2
end Go.Proofs.Ytdpmkfjomkemhaa
