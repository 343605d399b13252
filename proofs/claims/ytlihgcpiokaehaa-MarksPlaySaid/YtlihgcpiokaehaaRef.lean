/- The contracts of the reference's find, in, Parent, and of same. Conditions: the ranges lie in memory. -/
import Derived.Test.YtlihgcpiokaehaaParent
import Derived.Test.YtlihgcpiokaehaaNest
namespace Go.Proofs.Ytlihgcpiokaehaa
open Go Go.RowKit

theorem find_none (a : Option Addr) (c : Nat) (x : Int) (w : World) : Calls Try.prog 13 #[.slice a 0 c, .int .i64 x] w fun e w' => e = .returned (.int .i64 (-1)) ∧ w = w' := by
  go_enter Try.func13, Try.ntmps13
  go_wp2
  go_loop [5] (fun i => i = .int .i64 0) (fun _ => 0)
  case atStart => rfl
  case round =>
    subst hrel
    go_wp2
    go_ret
    exact ⟨rfl, rfl⟩

theorem find_cells (g off n c : Nat) (x : Int) (rs : List Rg) (w : World) (hn : n ≤ 60) (hlen : rs.length = n) (hc : ∀ j u, (flat rs)[j]? = some u → w.cell? ⟨g, off + j, none⟩ = some u) :
    Calls Try.prog 13 #[.slice (some ⟨g, off, none⟩) n c, .int .i64 x] w fun e w' => e = .returned (.int .i64 (idz x rs)) ∧ w = w' := by
  have HC := Lib.hid hc
  have HN := Lib.hid hlen
  clear hc hlen
  go_enter Try.func13, Try.ntmps13
  go_wp2
  go_loop [5] (fun i => ∃ k : Nat, k ≤ n ∧ i = .int .i64 k ∧ (∀ (j : Nat) (z : Rg), j < k → rs[j]? = some z → z.i ≠ x)) (fun i => n - (RowKit.intOf i).toNat)
  case atStart => exact ⟨0, Nat.zero_le _, rfl, fun j z hj => absurd hj (Nat.not_lt_zero _)⟩
  case round =>
    obtain ⟨k, hk, rfl, hall⟩ := hrel
    have HA := Lib.hid hall
    clear hall
    by_cases hltk : k < n
    · obtain ⟨y, hy⟩ : ∃ y, rs[k]? = some y := ⟨rs[k]'(by have := HN.out; omega), by simp⟩
      obtain ⟨_, _, _, _, c4⟩ := rgCells HC.out k y hy
      have Y := Lib.hid hy
      have hltz : (k : Int) < (n : Int) := by omega
      have hk0 : (0 : Int) ≤ (k : Int) := by omega
      clear hy
      by_cases hi : y.i = x
      · have E := Lib.hid (show idz x rs = k from idz_hit Y.out hi HA.out)
        have hib : (y.i == x) = true := by simp [hi]
        go_wp2
        go_ret
        exact ⟨ret_int E.out.symm, rfl⟩
      · have HI := Lib.hid hi
        have hib : (y.i == x) = false := by simp [hi]
        go_wp2
        go_round
        case rel =>
          refine ⟨k + 1, by omega, by go_num, fun j z hj hz => ?_⟩
          by_cases e : j = k
          · subst e
            rw [Y.out] at hz
            cases hz
            exact HI.out
          · exact HA.out j z (by omega) hz
        case measure => simp [RowKit.intOf]; omega
    · have E := Lib.hid (show idz x rs = -1 from idz_miss fun j z hz => HA.out j z (by have := (List.getElem?_eq_some_iff.1 hz).1; have := HN.out; omega) hz)
      have hkn : ¬ (k : Int) < (n : Int) := by omega
      go_wp2
      go_ret
      exact ⟨ret_int E.out.symm, rfl⟩

theorem find (a : Option Addr) (n c : Nat) (x : Int) (rs : List Rg) (w : World) (hn : n ≤ 60) (h : RowAt 35 w a n rs) :
    Calls Try.prog 13 #[.slice a n c, .int .i64 x] w fun e w' => e = .returned (.int .i64 (idz x rs)) ∧ w = w' := by
  obtain ⟨hl, rfl | ⟨b, off, rfl, _, hc⟩⟩ := h
  · obtain rfl : rs = [] := List.eq_nil_of_length_eq_zero hl
    exact find_none a c x w
  · exact find_cells b off n c x rs w hn hl hc

theorem refIn (x y : Rg) (w : World) :
    Calls Try.prog 36 #[.agg #[.int .i64 x.f, .int .i64 x.t, .bool x.l, .bool x.r, .int .i64 x.i], .agg #[.int .i64 y.f, .int .i64 y.t, .bool y.l, .bool y.r, .int .i64 y.i]] w fun e w' => e = .returned (.bool (inB x y)) ∧ Below w.heap.size w w' := by
  obtain ⟨f, t, l, r, i⟩ := x
  obtain ⟨f', t', l', r', i'⟩ := y
  unfold inB
  simp only
  by_cases h : f = f' ∧ t = t'
  · obtain ⟨rfl, rfl⟩ := h
    rw [if_pos ⟨rfl, rfl⟩]
    go_enter Try.func36, Try.ntmps36
    go_wp2
    all_goals (go_ret; refine ⟨ret_bool ?_, ((Below.refl _ _).alloc (Nat.le_refl _) _).alloc (by simp) _⟩)
    all_goals first | rfl | (rw [Bool.eq_iff_iff]; simp; done) | (rw [Bool.eq_iff_iff]; simp; omega)
  · rw [if_neg h]
    go_enter Try.func36, Try.ntmps36
    go_wp2
    all_goals (go_ret; refine ⟨ret_bool ?_, ((Below.refl _ _).alloc (Nat.le_refl _) _).alloc (by simp) _⟩)
    all_goals first | rfl | (rw [Bool.eq_iff_iff]; simp; done) | (rw [Bool.eq_iff_iff]; simp; omega)

/-- Whole numbers in memory. -/
def IntsAt (w : World) (a : Option Addr) (n : Nat) (zs : List Int) : Prop :=
  zs.length = n ∧ (n = 0 ∨ ∃ b off, a = some ⟨b, off, none⟩ ∧ ∀ j z, zs[j]? = some z → w.cell? ⟨b, off + j, none⟩ = some (.int .i64 z))
theorem own_ints {w : World} {B n : Nat} {v : Value} {zs : List Int} (h : w.ownsRow B 3 1 v n (ints64 zs)) : ∃ a c, v = .slice a n c ∧ IntsAt w a n zs := by
  have hl := h.1
  rw [ints64_len] at hl
  rcases h.2 with ⟨rfl, rfl⟩ | ⟨g, cap, cur, rfl, hB, hg, hcap, _⟩
  · exact ⟨none, 0, rfl, by omega, .inl rfl⟩
  · refine ⟨_, cap, rfl, by omega, .inr ⟨g, 0, rfl, fun j z hz => ?_⟩⟩
    have := h.cells (g := g) rfl j (.int .i64 z) (by simp [ints64, hz])
    rwa [Addr.add_lit] at this

theorem same_none (a b : Option Addr) (c d : Nat) (w : World) : Calls Try.prog 20 #[.slice a 0 c, .slice b 0 d] w fun e w' => e = .returned (.bool true) ∧ Below w.heap.size w w' := by
  go_enter Try.func20, Try.ntmps20
  go_wp2
  go_loop [5] (fun i => i = .int .i64 0) (fun _ => 0)
  case atStart => rfl
  case round =>
    subst hrel
    go_wp2
    go_ret
    exact ⟨rfl, Below.refl _ _⟩

theorem same_cells (g off n c h off' d : Nat) (zs : List Int) (w : World) (hl : zs.length = n) (hn : n ≤ 1000000) (hb : g < w.heap.size) (hb' : h < w.heap.size) (h1 : ∀ j z, zs[j]? = some z → w.cell? ⟨g, off + j, none⟩ = some (.int .i64 z)) (h2 : ∀ j z, zs[j]? = some z → w.cell? ⟨h, off' + j, none⟩ = some (.int .i64 z)) :
    Calls Try.prog 20 #[.slice (some ⟨g, off, none⟩) n c, .slice (some ⟨h, off', none⟩) n d] w fun e w' => e = .returned (.bool true) ∧ Below w.heap.size w w' := by
  have H1 := Lib.hid h1
  have H2 := Lib.hid h2
  have HL := Lib.hid hl
  clear h1 h2 hl
  go_enter Try.func20, Try.ntmps20
  go_wp2
  go_loopw [5] (fun i wr => ∃ k : Nat, k ≤ n ∧ i = .int .i64 k ∧ Below w.heap.size w wr) (fun i _ => n - (RowKit.intOf i).toNat)
  case atStart => exact ⟨0, Nat.zero_le _, rfl, Below.refl _ _⟩
  case round =>
    obtain ⟨k, hk, rfl, hbel⟩ := hrel
    have HB := Lib.hid hbel
    by_cases hltk : k < n
    · obtain ⟨y, hy⟩ : ∃ y, zs[k]? = some y := ⟨zs[k]'(by have := HL.out; omega), by simp⟩
      have c1 : wr.cell? ⟨g, off + k, none⟩ = some (.int .i64 y) := (hbel.cell (by exact hb)).trans (H1.out k y hy)
      have c2 : wr.cell? ⟨h, off' + k, none⟩ = some (.int .i64 y) := (hbel.cell (by exact hb')).trans (H2.out k y hy)
      have hltz : (k : Int) < (n : Int) := by omega
      have hk0 : (0 : Int) ≤ (k : Int) := by omega
      clear hy hbel
      go_wp2_with fail
      go_quiet (fail)
      go_wp2
      go_roundw
      case rel => exact ⟨k + 1, by omega, by go_num, HB.out.trans ⟨rfl, rfl, rfl, Nat.le_refl _, fun _ _ => rfl⟩⟩
      case measure => simp [RowKit.intOf]; omega
    · clear hbel
      go_wp2
      go_ret
      exact ⟨rfl, HB.out⟩

/-- same, at slices that hold the same numbers. -/
theorem same (a b : Option Addr) (n c d : Nat) (zs : List Int) (w : World) (hn : n ≤ 1000000) (h1 : IntsAt w a n zs) (h2 : IntsAt w b n zs) :
    Calls Try.prog 20 #[.slice a n c, .slice b n d] w fun e w' => e = .returned (.bool true) ∧ Below w.heap.size w w' := by
  rcases h1.2 with h0 | ⟨g, off, rfl, hc⟩
  · subst h0
    exact same_none a b c d w
  · rcases h2.2 with h0 | ⟨g', off', rfl, hc'⟩
    · subst h0
      exact same_none _ _ c d w
    · by_cases h0 : n = 0
      · subst h0
        exact same_none _ _ c d w
      · obtain ⟨z, hz⟩ : ∃ z, zs[0]? = some z := ⟨zs[0]'(by have := h1.1; omega), by simp⟩
        exact same_cells g off n c g' off' d zs w h1.1 hn (block_lt_of_cell (hc 0 z hz)) (block_lt_of_cell (hc' 0 z hz)) hc hc'
/-- Where the parent so far stands. -/
def Best (x : Rg) (rs : List Rg) (j : Nat) (z : Int) : Prop := (z = -1 ∧ parR x (rs.take j) = zero5) ∨ ∃ b : Nat, z = b ∧ b < rs.length ∧ rs[b]? = some (parR x (rs.take j))

theorem best_same {x y : Rg} {rs : List Rg} {j : Nat} {z : Int} (h : Best x rs j z) (hy : rs[j]? = some y) (hs : step x (parR x (rs.take j)) y = parR x (rs.take j)) : Best x rs (j + 1) z := by
  unfold Best
  rw [parR_snoc x rs j y hy, hs]
  exact h
theorem best_new {x y : Rg} {rs : List Rg} {j : Nat} (hy : rs[j]? = some y) (hs : step x (parR x (rs.take j)) y = y) : Best x rs (j + 1) j := by
  unfold Best
  rw [parR_snoc x rs j y hy, hs]
  exact .inr ⟨j, rfl, (List.getElem?_eq_some_iff.1 hy).1, hy⟩

set_option maxHeartbeats 4000000 in
theorem refParent_cells (g off n c last : Nat) (rs : List Rg) (x : Rg) (w : World) (hn : n ≤ 60) (hlen : rs.length = n) (hg : g < w.heap.size) (hc : ∀ j u, (flat rs)[j]? = some u → w.cell? ⟨g, off + j, none⟩ = some u)
    (hx : x ∈ rs) (hgood : ∀ y ∈ rs, y.good last) (hs : rs.Pairwise (fun x y => x.i < y.i)) :
    Calls Try.prog 22 #[.slice (some ⟨g, off, none⟩) n c, .agg #[.int .i64 x.f, .int .i64 x.t, .bool x.l, .bool x.r, .int .i64 x.i]] w fun e w' => e = .returned (.int .i64 (parR x rs).i) ∧ Below w.heap.size w w' := by
  have HC := Lib.hid hc
  have HN := Lib.hid hlen
  have HG := Lib.hid hgood
  have HS := Lib.hid hs
  have HX := Lib.hid hx
  have RX := Lib.hid (row5 w x 35)
  have hb0 : Below w.heap.size w (w.alloc (Obj.cells #[.int .i64 x.f, .int .i64 x.t, .bool x.l, .bool x.r, .int .i64 x.i] 35)) := (Below.refl _ _).alloc (Nat.le_refl _) _
  have BV := Lib.hid hb0
  obtain ⟨V, hV⟩ : ∃ V, V = (w.alloc (Obj.cells #[.int .i64 x.f, .int .i64 x.t, .bool x.l, .bool x.r, .int .i64 x.i] 35)) := ⟨_, rfl⟩
  rw [← hV] at RX BV
  have HV := Lib.hid hV
  clear hc hlen hgood hs hx hb0 hV
  go_enter Try.func22, Try.ntmps22
  go_wp2_with fail
  rw [← HV.out]
  have hVs : w.heap.size < V.heap.size := RX.out.lt
  go_loopw [5, 6] (fun b i wr => ∃ (j : Nat) (z : Int), j ≤ n ∧ i = .int .i64 j ∧ b = .int .i64 z ∧ Best x rs j z ∧ Below V.heap.size V wr) (fun _ i _ => n - (intOf i).toNat)
  case atStart => exact ⟨0, -1, Nat.zero_le _, rfl, rfl, .inl ⟨rfl, rfl⟩, Below.refl _ _⟩
  case round =>
    obtain ⟨j, z, hj, rfl, rfl, hbest, hbel⟩ := hrel
    have BE := Lib.hid hbest
    have BB := Lib.hid hbel
    have hwz := hbel.size
    have hgw : g < V.heap.size := by omega
    have hcV : ∀ j u, (flat rs)[j]? = some u → wr.cell? ⟨g, off + j, none⟩ = some u := fun j u hu => (hbel.cell (by exact hgw)).trans ((BV.out.cell (by exact hg)).trans (HC.out j u hu))
    have HCV := Lib.hid hcV
    clear hbest hcV
    by_cases hjn : j < n
    · obtain ⟨y, hy⟩ : ∃ y, rs[j]? = some y := ⟨rs[j]'(by have := HN.out; omega), by simp⟩
      have hym := List.mem_of_getElem? hy
      have gy := HG.out y hym
      obtain ⟨c0, c1, c2, c3, c4⟩ := rgCells HCV.out j y hy
      obtain ⟨x0, x1, x2, x3, x4⟩ := row5_cells (RX.out.of_block (hbel.block _ hVs))
      have hjz : (j : Int) < (n : Int) := by omega
      have hj0 : (0 : Int) ≤ (j : Int) := by omega
      have hxw : w.heap.size < wr.heap.size := by omega
      have Y := Lib.hid hy
      obtain ⟨p, hp⟩ : ∃ p, p = parR x (rs.take j) := ⟨_, rfl⟩
      have HP := Lib.hid hp
      have ST := Lib.hid (show step x p y = if inB x y = true ∧ (p.i = 0 ∨ nearB y p = true) then y else p from rfl)
      by_cases hid : y.i = x.i
      · have e : y = x := same_of_id HS.out hym HX.out hid
        have FIN := Lib.hid (best_same BE.out Y.out (by rw [← HP.out, ST.out, e, inB_irrefl, if_neg (by simp)]))
        have hib : (y.i == x.i) = true := by simp [hid]
        clear hbel hy hp hid e
        go_wp2
        go_roundw
        case rel => exact ⟨j + 1, z, by omega, by go_num, rfl, FIN.out, BB.out.alloc (by omega) _⟩
        case measure => simp [intOf]; omega
      · have hib : (y.i == x.i) = false := by simp [hid]
        have I := refIn x y (wr.alloc (Obj.cells #[.int .i64 y.f, .int .i64 y.t, .bool y.l, .bool y.r, .int .i64 y.i] 35))
        have RY := Lib.hid (row5 wr y 35)
        have BY := Lib.hid (show Below V.heap.size V (wr.alloc (Obj.cells #[.int .i64 y.f, .int .i64 y.t, .bool y.l, .bool y.r, .int .i64 y.i] 35)) from hbel.alloc hwz _)
        cases hin : inB x y with
        | false =>
          rw [hin] at I
          have II := Lib.hid I
          have FIN := Lib.hid (best_same BE.out Y.out (by rw [← HP.out, ST.out, hin, if_neg (by simp)]))
          clear hbel hy hp hid hin I
          go_wp2_with fail
          (with_reducible refine II.out.mono ?_)
          rintro e w3 ⟨rfl, b3⟩
          have B3 := Lib.hid (BY.out.trans (b3.mono (by simp; omega)))
          clear b3
          go_wp2
          go_roundw
          case rel => exact ⟨j + 1, z, by omega, by go_num, rfl, FIN.out, B3.out⟩
          case measure => simp [intOf]; omega
        | true =>
          rw [hin] at I
          have II := Lib.hid I
          rcases BE.out with ⟨rfl, hz⟩ | ⟨b, rfl, hb, hbp⟩
          · have FIN := Lib.hid (best_new Y.out (by rw [← HP.out, ST.out, hin, if_pos ⟨rfl, .inl (by rw [HP.out, hz]; rfl)⟩]))
            clear hbel hy hp hid hin I hz
            go_wp2_with fail
            (with_reducible refine II.out.mono ?_)
            rintro e w3 ⟨rfl, b3⟩
            have B3 := Lib.hid (BY.out.trans (b3.mono (by simp; omega)))
            clear b3
            go_wp2
            go_roundw
            case rel => exact ⟨j + 1, j, by omega, by go_num, rfl, FIN.out, B3.out⟩
            case measure => simp [intOf]; omega
          · rw [← hp] at hbp
            have gp := HG.out p (List.mem_of_getElem? hbp)
            have hpi : p.i ≠ 0 := by have := gp.2.2.2.1; omega
            have FY := Lib.hid (fun (h : nearB y p = true) => best_new Y.out (by rw [← HP.out, ST.out, hin, if_pos ⟨rfl, .inr h⟩]))
            have FN := Lib.hid (fun (h : nearB y p = false) => best_same (z := (b : Int)) BE.out Y.out (by rw [← HP.out, ST.out, hin, if_neg (by simp [hpi, h])]))
            have HBP := Lib.hid hbp
            have hbz : (b : Int) < (n : Int) := by have := HN.out; omega
            have hb0 : (0 : Int) ≤ (b : Int) := by omega
            have hbn : ¬ (b : Int) < 0 := by omega
            have y1 := gy.1
            have y2 := gy.2.1
            have y3 := gy.2.2.1
            have p1 := gp.1
            have p2 := gp.2.1
            have p3 := gp.2.2.1
            clear hbel hy hp hid hin I hbp gy gp hpi
            go_wp2_with fail
            (with_reducible refine II.out.mono ?_)
            rintro e w3 ⟨rfl, b3⟩
            have B3 := Lib.hid (BY.out.trans (b3.mono (by simp; omega)))
            obtain ⟨d0, d1, d2, d3, d4⟩ := row5_cells (RY.out.of_block (b3.block _ RY.out.lt))
            have hs3 : wr.heap.size < w3.heap.size := by have := b3.size; simp at this; omega
            obtain ⟨q0, q1, q2, q3, q4⟩ := rgCells (w := w3) (b := g) (off := off) (rs := rs) (fun j u hu => (b3.cell (by simp; omega)).trans (Lib.cell?_alloc_some _ (HCV.out j u hu))) b p HBP.out
            clear b3 c0 c1 c2 c3 c4 x0 x1 x2 x3 x4
            go_wp2
            all_goals go_roundw
            all_goals first
              | (simp [intOf]; omega)
              | exact ⟨j + 1, (j : Int), by omega, by go_num, rfl, FY.out (by unfold nearB; simp only [decide_eq_true_eq]; omega), B3.out.alloc (by omega) _⟩
              | exact ⟨j + 1, (b : Int), by omega, by go_num, rfl, FN.out (by unfold nearB; simp only [decide_eq_false_iff_not]; omega), B3.out.alloc (by omega) _⟩
    · have hjz : ¬ (j : Int) < (n : Int) := by omega
      have e : rs.take j = rs := List.take_of_length_le (by have := HN.out; omega)
      have hs2 := hVs
      rcases BE.out with ⟨rfl, hz⟩ | ⟨b, rfl, hb, hbp⟩
      · have E := Lib.hid (show (parR x rs).i = 0 by rw [e] at hz; rw [hz]; rfl)
        have FB := Lib.hid (BV.out.trans (hbel.mono (by omega)))
        clear hbel hz e
        go_wp2
        go_ret
        exact ⟨ret_int E.out.symm, FB.out⟩
      · rw [e] at hbp
        obtain ⟨_, _, _, _, q4⟩ := rgCells HCV.out b _ hbp
        have FB := Lib.hid (BV.out.trans (hbel.mono (by omega)))
        have hbz : (b : Int) < (n : Int) := by have := HN.out; omega
        have hb0 : (0 : Int) ≤ (b : Int) := by omega
        have hbn : ¬ (b : Int) < 0 := by omega
        clear hbel hbp e
        go_wp2
        go_ret
        exact ⟨rfl, FB.out⟩
end Go.Proofs.Ytlihgcpiokaehaa
