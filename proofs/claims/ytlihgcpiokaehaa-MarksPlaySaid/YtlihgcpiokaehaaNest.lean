/- The walk of MarksNest: parents form no circle. Conditions: the arguments lie in memory. -/
import Derived.Test.YtlihgcpiokaehaaEdit
import Derived.Test.YtlihgcpiokaehaaParent
import Derived.Test.YtlihgcpiokaehaaInB
namespace Go.Proofs.Ytlihgcpiokaehaa
open Go Go.RowKit

theorem inB_irrefl (x : Rg) : inB x x = false := by unfold inB; simp
theorem inB_span {x y : Rg} (h : inB x y = true) : y.f ≤ x.f ∧ x.t ≤ y.t := by
  unfold inB at h
  split at h
  · omega
  · exact of_decide_eq_true h
theorem inB_trans {x y z : Rg} (h1 : inB x y = true) (h2 : inB y z = true) : inB x z = true := by
  unfold inB at *
  split at h1 <;> split at h2 <;> split <;> simp only [decide_eq_true_eq] at * <;> omega

/-- How many ranges a range is in. -/
def above (rs : List Rg) (x : Rg) : Nat := rs.countP (inB x)
theorem countP_lt {α : Type} {P Q : α → Bool} {l : List α} {a : α} (h : ∀ y, P y = true → Q y = true) (ha : a ∈ l) (hq : Q a = true) (hp : P a = false) : l.countP P < l.countP Q := by
  induction l with
  | nil => cases ha
  | cons b r ih =>
    rw [List.countP_cons, List.countP_cons]
    have hle : r.countP P ≤ r.countP Q := List.countP_mono_left fun y _ hy => h y hy
    rcases List.mem_cons.1 ha with rfl | hr
    · rw [hq, hp]
      simp
      omega
    · have := ih hr
      cases hb : P b with
      | true => rw [h b hb]; simp; omega
      | false => cases hq' : Q b <;> simp <;> omega
theorem above_parent {rs : List Rg} {x p : Rg} (hp : p ∈ rs) (h : inB x p = true) : above rs p < above rs x :=
  countP_lt (fun _ hy => inB_trans h hy) hp h (inB_irrefl p)
theorem above_lt {rs : List Rg} {x : Rg} (hx : x ∈ rs) : above rs x < rs.length := by
  have := countP_lt (P := inB x) (Q := fun _ => true) (l := rs) (fun _ _ => rfl) hx rfl (inB_irrefl x)
  rwa [show (fun _ : Rg => true) = fun _ => true from rfl, List.countP_true] at this
theorem same_of_id {rs : List Rg} (hs : rs.Pairwise (fun x y => x.i < y.i)) {x y : Rg} (hx : x ∈ rs) (hy : y ∈ rs) (h : x.i = y.i) : x = y := by
  induction rs with
  | nil => cases hx
  | cons z r ih =>
    rw [List.pairwise_cons] at hs
    rcases List.mem_cons.1 hx with rfl | hx'
    · rcases List.mem_cons.1 hy with rfl | hy'
      · rfl
      · have := hs.1 y hy'; omega
    · rcases List.mem_cons.1 hy with rfl | hy'
      · have := hs.1 x hx'; omega
      · exact ih hs.2 hx' hy'
theorem idz_of {rs : List Rg} (hs : rs.Pairwise (fun x y => x.i < y.i)) {x : Rg} (hx : x ∈ rs) : ∃ k : Nat, idz x.i rs = k ∧ rs[k]? = some x := by
  rcases idz_cases x.i rs with ⟨_, h⟩ | ⟨k, y, h1, h2, h3, _⟩
  · exact absurd rfl (h x hx)
  · exact ⟨k, h1, by rw [h2, same_of_id hs (List.mem_of_getElem? h2) hx h3]⟩

theorem add_any (mb B last : Nat) (rs : List Rg) (f t : Int) (l r : Bool) (w : World) (h : MarksAt w B mb rs last) (hB : B ≤ mb) (hl : last < 1000000) :
    Calls Try.prog 14 #[.pointer (some ⟨mb, 0, none⟩), .agg #[.int .i64 f, .int .i64 t, .bool l, .bool r]] w fun e w' => ∃ v rs' last', e = .returned v ∧ MarksAt w' B mb rs' last' ∧ last' ≤ last + 1 ∧ Below B w w' := by
  have hlt := h.lt
  cases hm : may f t with
  | false => exact (add_bad mb B last rs f t l r w h (by omega) hm).mono fun e w' ⟨h1, h2, _, h4⟩ => ⟨_, rs, last, h1, h2, by omega, h4⟩
  | true =>
    by_cases hn : rs.length < 60
    · exact (add_yes mb B last rs f t l r w h hB hm hn hl).mono fun e w' ⟨h1, h2, _, h4⟩ => ⟨_, _, _, h1, h2, by omega, h4⟩
    · exact (add_full mb B last rs f t l r w h (by omega) hm (by omega)).mono fun e w' ⟨h1, h2, _, h4⟩ => ⟨_, rs, last, h1, h2, by omega, h4⟩
theorem edit_any (mb B last : Nat) (rs : List Rg) (x d : Int) (a : Option Addr) (n c : Nat) (w : World) (h : MarksAt w B mb rs last) (hB : B ≤ mb) (hn : n ≤ 1000000) :
    Calls Try.prog 16 #[.pointer (some ⟨mb, 0, none⟩), .agg #[.int .i64 x, .int .i64 d, .slice a n c]] w fun e w' => ∃ v rs', e = .returned v ∧ MarksAt w' B mb rs' last ∧ Below B w w' := by
  have hlt := h.lt
  cases hx : fair x d with
  | false => exact (edit_bad mb B last rs x d a n c w h (by omega) hx).mono fun e w' ⟨h1, h2, _, h4⟩ => ⟨_, rs, h1, h2, h4⟩
  | true => exact (edit_good mb B last rs x d a n c w h hB hx hn).mono fun e w' ⟨h1, h2, _, h4⟩ => ⟨_, _, h1, h2, h4⟩

theorem nest_long (la ea : Option Addr) (n c m d : Nat) (w : World) (h : 60 < n ∨ (n ≤ 60 ∧ 30 < m)) :
    Calls Try.prog 5 #[.slice la n c, .slice ea m d] w fun e w' => e = .returned (.bool true) ∧ Below w.heap.size w w' := by
  have K := Lib.hid knows
  have N := Lib.hid (new w)
  rcases h with h | ⟨h, h'⟩
  · have hz : (60 : Int) < (n : Int) := by omega
    go_enter Try.func5, Try.ntmps5
    go_wp2_with fail
    (with_reducible refine N.out.mono ?_)
    rintro e w1 ⟨rfl, _, b1⟩
    have B1 := Lib.hid b1
    have hs1 := b1.size
    clear b1
    go_wp2_with fail
    (with_reducible refine (K.out _).mono ?_)
    rintro e w2 ⟨rfl, b2⟩
    have B2 := Lib.hid (B1.out.trans (b2.mono hs1))
    clear b2
    go_wp2
    go_ret
    exact ⟨rfl, B2.out⟩
  · have hz : ¬ (60 : Int) < (n : Int) := by omega
    have hz' : (30 : Int) < (m : Int) := by omega
    go_enter Try.func5, Try.ntmps5
    go_wp2_with fail
    (with_reducible refine N.out.mono ?_)
    rintro e w1 ⟨rfl, _, b1⟩
    have B1 := Lib.hid b1
    have hs1 := b1.size
    clear b1
    go_wp2_with fail
    (with_reducible refine (K.out _).mono ?_)
    rintro e w2 ⟨rfl, b2⟩
    have B2 := Lib.hid (B1.out.trans (b2.mono hs1))
    clear b2
    go_wp2
    go_ret
    exact ⟨rfl, B2.out⟩

/-- Where the way from parent to parent stands. -/
def Way (rs : List Rg) (N q : Nat) (id : Int) : Prop := (id = 0 ∧ q ≤ N) ∨ ∃ x ∈ rs, id = x.i ∧ q + above rs x + 1 ≤ N

set_option maxHeartbeats 8000000 in
set_option maxRecDepth 100000 in
theorem nest_main (la ea : Option Addr) (n c m d : Nat) (xs : List Rn) (es : List Ed) (w : World) (hn : n ≤ 60) (hm : m ≤ 30) (hxs : Rows 4 Rn.cells w la n xs) (hes : Rows 3 Ed.cells w ea m es) :
    Calls Try.prog 5 #[.slice la n c, .slice ea m d] w fun e w' => e = .returned (.bool true) ∧ Below w.heap.size w w' := by
  have K := Lib.hid knows
  have N := Lib.hid (new w)
  have XS := Lib.hid hxs
  have ES := Lib.hid hes
  have hz : ¬ (60 : Int) < (n : Int) := by omega
  have hz' : ¬ (30 : Int) < (m : Int) := by omega
  clear hxs hes
  go_enter Try.func5, Try.ntmps5
  go_wp2_with fail
  (with_reducible refine N.out.mono ?_)
  rintro e w1 ⟨rfl, m1, b1⟩
  have B1 := Lib.hid b1
  have M1 := Lib.hid m1
  clear b1 m1
  go_wp2_with fail
  go_loopw [6] (fun i wr => ∃ (j : Nat) (rs : List Rg) (last : Nat), j ≤ n ∧ i = .int .i64 j ∧ last ≤ j ∧ MarksAt wr w.heap.size w.heap.size rs last ∧ Below w.heap.size w wr) (fun i _ => n - (intOf i).toNat)
  case atStart => exact ⟨0, [], 0, Nat.zero_le _, rfl, Nat.le_refl _, M1.out, B1.out⟩
  case round =>
    obtain ⟨j, rs, last, hj, rfl, hla, hM, hbel⟩ := hrel
    have MM := Lib.hid hM
    have BB := Lib.hid hbel
    by_cases hjn : j < n
    · obtain ⟨x, hx⟩ : ∃ x, xs[j]? = some x := ⟨xs[j]'(by have := XS.out.1; omega), by simp⟩
      rcases XS.out.2 with h0 | ⟨b, off, rfl, hb, hc⟩
      · omega
      have c0 := (hbel.cell (by exact hb)).trans (hc j x hx 0 _ rfl)
      have c1 := (hbel.cell (by exact hb)).trans (hc j x hx 1 _ rfl)
      have c2 := (hbel.cell (by exact hb)).trans (hc j x hx 2 _ rfl)
      have c3 := (hbel.cell (by exact hb)).trans (hc j x hx 3 _ rfl)
      have hjz : (j : Int) < (n : Int) := by omega
      have hj0 : (0 : Int) ≤ (j : Int) := by omega
      obtain ⟨f, t, l, r⟩ := x
      have A := Lib.hid (add_any w.heap.size w.heap.size last rs f t l r wr MM.out (Nat.le_refl _) (by omega))
      simp only [Nat.add_zero] at c0 c1 c2 c3
      have hwz := hbel.size
      clear hM hbel hc hx
      go_wp2_with fail
      (with_reducible refine A.out.mono ?_)
      rintro e w2 ⟨v, rs', last', rfl, m2, hl2, b2⟩
      have M2 := Lib.hid m2
      have B2 := Lib.hid (BB.out.trans b2)
      clear m2 b2
      go_wp2
      go_roundw
      case rel => exact ⟨j + 1, rs', last', by omega, by go_num, by omega, M2.out, B2.out⟩
      case measure => simp [intOf]; omega
    · have hjz : ¬ (j : Int) < (n : Int) := by omega
      clear hM hbel
      go_wp2_with fail
      rename_i BB1 MM1 W1
      go_loopw [7] (fun i wr => ∃ (j : Nat) (rs : List Rg), j ≤ m ∧ i = .int .i64 j ∧ MarksAt wr w.heap.size w.heap.size rs last ∧ Below w.heap.size w wr) (fun i _ => m - (intOf i).toNat)
      case atStart => exact ⟨0, rs, Nat.zero_le _, rfl, MM.out, BB.out⟩
      case round =>
        obtain ⟨j2, rs2, hj2, rfl, hM, hbel⟩ := hrel
        have M3 := Lib.hid hM
        have B3 := Lib.hid hbel
        by_cases hjm : j2 < m
        · obtain ⟨x, hx⟩ : ∃ x, es[j2]? = some x := ⟨es[j2]'(by have := ES.out.1; omega), by simp⟩
          rcases ES.out.2 with h0 | ⟨b, off, rfl, hb, hc⟩
          · omega
          have c0 := (hbel.cell (by exact hb)).trans (hc j2 x hx 0 _ rfl)
          have c1 := (hbel.cell (by exact hb)).trans (hc j2 x hx 1 _ rfl)
          have c2 := (hbel.cell (by exact hb)).trans (hc j2 x hx 2 _ rfl)
          have hjz : (j2 : Int) < (m : Int) := by omega
          have hj0 : (0 : Int) ≤ (j2 : Int) := by omega
          obtain ⟨ex, ed, ea', en, ec⟩ := x
          simp only [Nat.add_zero] at c0 c1 c2
          have hwz := hbel.size
          clear hM hbel hc hx
          by_cases h300 : 300 < en
          · have hz3 : (300 : Int) < (en : Int) := by omega
            go_wp2_with fail
            (with_reducible refine (K.out _).mono ?_)
            rintro e w2 ⟨rfl, b2⟩
            have B2 := Lib.hid (B3.out.trans (b2.mono hwz))
            clear b2
            go_wp2
            go_ret
            exact ⟨rfl, B2.out⟩
          · have hz3 : ¬ (300 : Int) < (en : Int) := by omega
            have A := Lib.hid (edit_any w.heap.size w.heap.size last rs2 ex ed ea' en ec _ M3.out (Nat.le_refl _) (by omega))
            go_wp2_with fail
            (with_reducible refine A.out.mono ?_)
            rintro e w2 ⟨v, rs', rfl, m2, b2⟩
            have M2 := Lib.hid m2
            have B2 := Lib.hid (B3.out.trans b2)
            clear m2 b2
            go_wp2
            go_roundw
            case rel => exact ⟨j2 + 1, rs', by omega, by go_num, M2.out, B2.out⟩
            case measure => simp [intOf]; omega
        · have hjz2 : ¬ (j2 : Int) < (m : Int) := by omega
          clear hM hbel
          have AL := all_marks w.heap.size w.heap.size last rs2 _ M3.out
          obtain ⟨N, hN⟩ : ∃ N, N = rs2.length := ⟨_, rfl⟩
          have HN := Lib.hid hN
          have hN60 : N ≤ 60 := by rw [hN]; exact M3.out.len
          unfold Gave at AL
          rw [List.length_map, ← hN] at AL
          have AA := Lib.hid AL
          clear AL hN
          go_wp2_with fail
          (with_reducible refine AA.out.mono ?_)
          rintro e w5 ⟨v5, rfl, o5, b5⟩
          obtain ⟨a5, c5, rfl⟩ := own_form2 o5
          have M5 := Lib.hid (M3.out.below b5)
          have B5 := Lib.hid (B3.out.trans (b5.mono B3.out.size))
          have O5 := Lib.hid o5
          clear b5 o5
          go_wp2_with fail
          go_loopw [9] (fun i wr => ∃ j : Nat, j ≤ N ∧ i = .int .i64 j ∧ Below w5.heap.size w5 wr) (fun i _ => N - (intOf i).toNat)
          case atStart => exact ⟨0, Nat.zero_le _, rfl, Below.refl _ _⟩
          case round =>
            obtain ⟨j5, hj5, rfl, hbel⟩ := hrel
            have B6 := Lib.hid hbel
            by_cases hjN : j5 < N
            · obtain ⟨x, hx⟩ : ∃ x, rs2[j5]? = some x := ⟨rs2[j5]'(by have := HN.out; omega), by simp⟩
              rcases O5.out.2 with ⟨_, h0⟩ | ⟨g, cap, cur, eg, _, hg, _⟩
              · omega
              cases eg
              have hgl := lt_of_block hg
              have cx : _ = some (Value.int .i64 x.i) := (hbel.cell (p := ⟨g, j5, none⟩) (by exact hgl)).trans (by
                have := O5.out.cells (g := g) rfl j5 (.int .i64 x.i) (by simp [ints64, hx])
                rw [Addr.add_lit] at this
                simpa using this)
              have hjz5 : (j5 : Int) < (N : Int) := by omega
              have hj05 : (0 : Int) ≤ (j5 : Int) := by omega
              have WY := Lib.hid (show Way rs2 N 0 x.i from .inr ⟨x, List.mem_of_getElem? hx, rfl, by have := above_lt (List.mem_of_getElem? hx); have := HN.out; omega⟩)
              clear hbel hg hx
              go_wp2_with fail
              go_loopw [10, 11] (fun id q wr => ∃ (qq : Nat) (z : Int), q = .int .i64 qq ∧ id = .int .i64 z ∧ Way rs2 N qq z ∧ Below w5.heap.size w5 wr) (fun id q _ => if intOf id = 0 then 0 else N + 1 - (intOf q).toNat)
              case atStart => exact ⟨0, x.i, rfl, rfl, WY.out, B6.out⟩
              case round =>
                obtain ⟨qq, z, rfl, rfl, hw, hbel⟩ := hrel
                have W7 := Lib.hid hw
                have B7 := Lib.hid hbel
                clear hw
                by_cases hz0 : z = 0
                · clear hbel
                  go_wp2
                  go_roundw
                  case rel => exact ⟨j5 + 1, by omega, by go_num, B7.out⟩
                  case measure => simp [intOf]; omega
                · rcases W7.out with ⟨e, _⟩ | ⟨x, hxm, rfl, hq⟩
                  · exact absurd e hz0
                  have M7 := Lib.hid (M5.out.below B7.out)
                  obtain ⟨k, hk, hkx⟩ := idz_of M5.out.sorted hxm
                  have gx := M5.out.good x hxm
                  have GE := Lib.hid (get_yes w.heap.size w.heap.size last rs2 x.i k x _ M7.out hk hkx)
                  have hqz : ¬ (N : Int) < (qq : Int) := by omega
                  have hft : ¬ x.t < x.f := by have := gx.2.1; omega
                  have hs7 := hbel.size
                  clear hbel
                  rcases parR_in x rs2 with hp | ⟨hpm, hpx⟩
                  · have PA := Lib.hid (fun W h => (show Calls Try.prog 21 _ W (fun e w' => e = .returned (.tuple #[.int .i64 0, .int .i64 0]) ∧ _) by
                      have h := parent_yes w.heap.size w.heap.size last rs2 x.i k x W h hk hkx
                      rw [hp] at h
                      exact h))
                    clear hp
                    go_wp2_with fail
                    (with_reducible refine GE.out.mono ?_)
                    rintro e w6 ⟨rfl, b6⟩
                    have M6 := Lib.hid ((M7.out.below b6).below ((Below.refl w6.heap.size w6).alloc (Nat.le_refl _) (Obj.cells #[.int .i64 x.f, .int .i64 x.t, .bool x.l, .bool x.r] 25)))
                    have B6' := Lib.hid (B7.out.trans (b6.mono hs7))
                    have hs6 := b6.size
                    clear b6
                    go_wp2_with fail
                    (with_reducible refine (PA.out _ M6.out).mono ?_)
                    rintro e w7 ⟨rfl, b7⟩
                    obtain ⟨y0, y1, _, _⟩ := row4_at (b := w6.heap.size) (v0 := .int .i64 x.f) (v1 := .int .i64 x.t) (v2 := .bool x.l) (v3 := .bool x.r) b7 (by simp) (by simp) (by simp) (by simp) (by simp)
                    have B8 := Lib.hid (show Below w5.heap.size w5 w7 from (B6'.out.alloc (by omega) _).trans (b7.mono (by simp; omega)))
                    clear b7
                    go_wp2
                    go_roundw
                    case rel => exact ⟨qq + 1, 0, by go_num, rfl, .inl ⟨rfl, by omega⟩, B8.out⟩
                    case measure => simp [intOf, hz0]; omega
                  · have gp := M5.out.good _ hpm
                    have hsp := inB_span hpx
                    have hab := above_parent hpm hpx
                    have PA := Lib.hid (fun W h => parent_yes w.heap.size w.heap.size last rs2 x.i k x W h hk hkx)
                    obtain ⟨p, hp⟩ : ∃ p, p = parR x rs2 := ⟨_, rfl⟩
                    rw [← hp] at PA gp hsp hab hpm hpx
                    clear hp
                    obtain ⟨k2, hk2, hkp⟩ := idz_of M5.out.sorted hpm
                    have GP := Lib.hid (fun W h => get_yes w.heap.size w.heap.size last rs2 p.i k2 p W h hk2 hkp)
                    have hpi : ¬ p.i = 0 := by have := gp.2.2.2.1; omega
                    have hf1 : ¬ x.f < p.f := by omega
                    have hf2 : ¬ p.t < x.t := by omega
                    go_wp2_with fail
                    (with_reducible refine GE.out.mono ?_)
                    rintro e w6 ⟨rfl, b6⟩
                    have M6 := Lib.hid ((M7.out.below b6).below ((Below.refl w6.heap.size w6).alloc (Nat.le_refl _) (Obj.cells #[.int .i64 x.f, .int .i64 x.t, .bool x.l, .bool x.r] 25)))
                    have B6' := Lib.hid (B7.out.trans (b6.mono hs7))
                    have hs6 := b6.size
                    clear b6
                    go_wp2_with fail
                    (with_reducible refine (PA.out _ M6.out).mono ?_)
                    rintro e w7 ⟨rfl, b7⟩
                    obtain ⟨y0, y1, y2, y3⟩ := row4_at (b := w6.heap.size) (v0 := .int .i64 x.f) (v1 := .int .i64 x.t) (v2 := .bool x.l) (v3 := .bool x.r) b7 (by simp) (by simp) (by simp) (by simp) (by simp)
                    have M8 := Lib.hid (M6.out.below b7)
                    have hs8 := b7.size
                    have B8 := Lib.hid (show Below w5.heap.size w5 w7 from (B6'.out.alloc (by omega) _).trans (b7.mono (by simp; omega)))
                    simp at hs8
                    clear b7
                    go_wp2_with fail
                    (with_reducible refine (GP.out _ M8.out).mono ?_)
                    rintro e w9 ⟨rfl, b9⟩
                    obtain ⟨t0, t1, _, _⟩ := row4_at (b := w6.heap.size) b9 (by omega) y0 y1 y2 y3
                    have hs9 : w6.heap.size < w9.heap.size := by have := b9.size; omega
                    have B9 := Lib.hid (show Below w5.heap.size w5 w9 from B8.out.trans (b9.mono (by omega)))
                    clear b9 y0 y1 y2 y3
                    have WN := Lib.hid (show Way rs2 N (qq + 1) p.i from .inr ⟨p, hpm, rfl, by omega⟩)
                    go_wp2
                    go_roundw
                    case rel => exact ⟨qq + 1, p.i, by go_num, rfl, WN.out, B9.out.alloc (by omega) _⟩
                    case measure => simp [intOf, hz0, hpi]; omega
            · have hjz5 : ¬ (j5 : Int) < (N : Int) := by omega
              have hwz := hbel.size
              have hs5 := B5.out.size
              clear hbel
              go_wp2_with fail
              (with_reducible refine (K.out _).mono ?_)
              rintro e w6 ⟨rfl, b6⟩
              have B8 := Lib.hid (B5.out.trans ((B6.out.trans (b6.mono hwz)).mono hs5))
              clear b6
              go_wp2
              go_ret
              exact ⟨rfl, B8.out⟩
end Go.Proofs.Ytlihgcpiokaehaa
