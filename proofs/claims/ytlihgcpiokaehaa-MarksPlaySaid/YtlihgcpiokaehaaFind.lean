/- The contracts of New, IndexFunc, index, Get. Conditions: the marks lie in memory. -/
import Derived.Test.YtlihgcpiokaehaaKnows
namespace Go.Proofs.Ytlihgcpiokaehaa
open Go Go.RowKit

theorem row2 (w : World) (v : Value) (last : Int) (t : TypeId) : (w.alloc (Obj.cells #[v, .int .i64 last] t)).rowIs w.heap.size t 2 (mk2 v last) :=
  World.rowIs_alloc w #[v, .int .i64 last] t _ (by intro i hi; match i, hi with | 0, _ => rfl | 1, _ => rfl)

theorem new (w : World) : Calls Try.prog 12 #[] w fun e w' => e = .returned (.pointer (some ⟨w.heap.size, 0, none⟩)) ∧ MarksAt w' w.heap.size w.heap.size [] 0 ∧ Below w.heap.size w w' := by
  have M : MarksAt (w.alloc (Obj.cells #[.slice none 0 0, .int .i64 0] 67)) w.heap.size w.heap.size [] 0 :=
    ⟨⟨.slice none 0 0, row2 w _ _ 67, World.ownsRow_nil _ _ _ _⟩, by simp, fun x hx => (by cases hx), List.Pairwise.nil⟩
  have HM := Lib.hid M
  clear M
  go_enter Try.func12, Try.ntmps12
  go_wp2
  go_ret
  exact ⟨rfl, HM.out, (Below.refl _ _).alloc (Nat.le_refl _) _⟩

/-- Where the range with a number stands. -/
def idz (x : Int) (rs : List Rg) : Int := match rs.findIdx? (fun y => y.i == x) with
  | some k => (k : Int)
  | none => -1
theorem idz_hit {x : Int} {rs : List Rg} {k : Nat} {y : Rg} (h : rs[k]? = some y) (hy : y.i = x) (hn : ∀ (j : Nat) (z : Rg), j < k → rs[j]? = some z → z.i ≠ x) : idz x rs = k := by
  unfold idz
  have : rs.findIdx? (fun y => y.i == x) = some k := by
    rw [List.findIdx?_eq_some_iff_getElem]
    obtain ⟨hlt, rfl⟩ := List.getElem?_eq_some_iff.1 h
    refine ⟨hlt, by simpa using hy, fun j hj => ?_⟩
    simpa using hn j _ hj (List.getElem?_eq_getElem (by omega))
  rw [this]
theorem idz_miss {x : Int} {rs : List Rg} (hn : ∀ (j : Nat) (z : Rg), rs[j]? = some z → z.i ≠ x) : idz x rs = -1 := by
  unfold idz
  have : rs.findIdx? (fun y => y.i == x) = none := by
    rw [List.findIdx?_eq_none_iff]
    intro z hz
    obtain ⟨j, hj⟩ := List.mem_iff_getElem?.1 hz
    simpa using hn j z hj
  rw [this]
theorem idz_cases (x : Int) (rs : List Rg) : (idz x rs = -1 ∧ ∀ z ∈ rs, z.i ≠ x) ∨ ∃ k y, idz x rs = (k : Nat) ∧ rs[k]? = some y ∧ y.i = x ∧ k < rs.length := by
  unfold idz
  cases h : rs.findIdx? (fun y => y.i == x) with
  | none =>
    rw [List.findIdx?_eq_none_iff] at h
    exact .inl ⟨rfl, fun z hz => by simpa using h z hz⟩
  | some k =>
    rw [List.findIdx?_eq_some_iff_getElem] at h
    obtain ⟨hlt, hy, _⟩ := h
    exact .inr ⟨k, rs[k], rfl, by simp, by simpa using hy, hlt⟩

theorem index1 (f t : Int) (l r : Bool) (i x : Int) (b : Nat) (w : World) (h : w.cell? ⟨b, 0, none⟩ = some (.int .i64 x)) :
    Calls Try.prog 41 #[.agg #[.int .i64 f, .int .i64 t, .bool l, .bool r, .int .i64 i], .pointer (some ⟨b, 0, none⟩)] w fun e w' => e = .returned (.bool (decide (i = x))) ∧ Below w.heap.size w w' := by
  have hBW : b < w.heap.size := block_lt_of_cell h
  have hne : b ≠ w.heap.size := by omega
  go_enter Try.func41, Try.ntmps41
  go_wp2
  all_goals (go_ret; refine ⟨ret_bool ?_, (Below.refl _ _).alloc (Nat.le_refl _) _⟩; rw [Bool.eq_iff_iff]; simp)

theorem indexFunc_none (a : Option Addr) (c b : Nat) (w : World) :
    Calls Try.prog 39 #[.slice a 0 c, .func (.func 41) #[] #[.pointer (some ⟨b, 0, none⟩)]] w fun e w' => e = .returned (.int .i64 (-1)) ∧ w = w' := by
  go_enter Try.func39, Try.ntmps39
  go_wp2
  go_loopw [8] (fun i wr => i = .int .i64 0 ∧ wr = w) (fun _ _ => 0)
  case atStart => exact ⟨rfl, rfl⟩
  case round =>
    obtain ⟨rfl, rfl⟩ := hrel
    go_wp2
    go_ret
    exact ⟨rfl, rfl⟩

set_option maxHeartbeats 1000000 in
theorem indexFunc_cells (g off n c b : Nat) (x : Int) (rs : List Rg) (w : World) (hn : n ≤ 60) (hlen : rs.length = n) (hlt : g < w.heap.size) (hc : ∀ j u, (flat rs)[j]? = some u → w.cell? ⟨g, off + j, none⟩ = some u)
    (hx : w.cell? ⟨b, 0, none⟩ = some (.int .i64 x)) :
    Calls Try.prog 39 #[.slice (some ⟨g, off, none⟩) n c, .func (.func 41) #[] #[.pointer (some ⟨b, 0, none⟩)]] w fun e w' => e = .returned (.int .i64 (idz x rs)) ∧ Below w.heap.size w w' := by
  have hbw : b < w.heap.size := block_lt_of_cell hx
  have HC := Lib.hid hc
  have HN := Lib.hid hlen
  have HX := Lib.hid hx
  clear hc hlen hx
  go_enter Try.func39, Try.ntmps39
  go_wp2
  go_loopw [8] (fun i wr => ∃ k : Nat, k ≤ n ∧ i = .int .i64 k ∧ (∀ (j : Nat) (z : Rg), j < k → rs[j]? = some z → z.i ≠ x) ∧ Below w.heap.size w wr) (fun i _ => n - (intOf i).toNat)
  case atStart => exact ⟨0, Nat.zero_le _, rfl, fun j z hj => absurd hj (Nat.not_lt_zero _), Below.refl _ _⟩
  case round =>
    obtain ⟨k, hk, rfl, hall, hbel⟩ := hrel
    have HA := Lib.hid hall
    have B := Lib.hid hbel
    clear hall
    by_cases hltk : k < n
    · obtain ⟨y, hy⟩ : ∃ y, rs[k]? = some y := ⟨rs[k]'(by have := HN.out; omega), by simp⟩
      obtain ⟨c0, c1, c2, c3, c4⟩ := rgCells HC.out k y hy
      have e0 := (hbel.cell (by exact hlt)).trans c0
      have e1 := (hbel.cell (by exact hlt)).trans c1
      have e2 := (hbel.cell (by exact hlt)).trans c2
      have e3 := (hbel.cell (by exact hlt)).trans c3
      have e4 := (hbel.cell (by exact hlt)).trans c4
      have Y := Lib.hid hy
      have hltz : (k : Int) < (n : Int) := by omega
      have hwz := hbel.size
      obtain ⟨f, t, l, r, i⟩ := y
      simp only at e0 e1 e2 e3 e4
      have A := index1 f t l r i x b wr ((hbel.cell (by exact hbw)).trans HX.out)
      clear c0 c1 c2 c3 c4 hy hbel
      by_cases hi : i = x
      · rw [decide_eq_true hi] at A
        have AA := Lib.hid A
        have E := Lib.hid (show idz x rs = k from idz_hit Y.out hi HA.out)
        clear A hi
        go_wp2_with fail
        go_at_call 41
        refine AA.out.mono ?_
        rintro e w2 ⟨rfl, b2⟩
        have B2 := Lib.hid (B.out.trans (b2.mono hwz))
        clear b2
        go_wp2
        go_ret
        exact ⟨ret_int E.out.symm, B2.out⟩
      · rw [decide_eq_false hi] at A
        have AA := Lib.hid A
        have HI := Lib.hid hi
        clear A hi
        go_wp2_with fail
        go_at_call 41
        refine AA.out.mono ?_
        rintro e w2 ⟨rfl, b2⟩
        have B2 := Lib.hid (B.out.trans (b2.mono hwz))
        clear b2
        go_wp2
        go_roundw
        case rel =>
          refine ⟨k + 1, by omega, by go_num, fun j z hj hz => ?_, B2.out⟩
          by_cases e : j = k
          · subst e
            rw [Y.out] at hz
            cases hz
            exact HI.out
          · exact HA.out j z (by omega) hz
        case measure => simp [intOf]; omega
    · have E := Lib.hid (show idz x rs = -1 from idz_miss fun j z hz => HA.out j z (by have := (List.getElem?_eq_some_iff.1 hz).1; have := HN.out; omega) hz)
      have hkn : ¬ (k : Int) < (n : Int) := by omega
      clear hbel
      go_wp2
      go_ret
      exact ⟨ret_int E.out.symm, B.out⟩

/-- index: where the range with a number stands, or -1. -/
theorem index (mb B last : Nat) (rs : List Rg) (x : Int) (w : World) (h : MarksAt w B mb rs last) :
    Calls Try.prog 28 #[.pointer (some ⟨mb, 0, none⟩), .int .i64 x] w fun e w' => e = .returned (.int .i64 (idz x rs)) ∧ Below w.heap.size w w' := by
  have hb : Below w.heap.size w (w.alloc (Obj.cells #[.int .i64 x] 3)) := (Below.refl _ _).alloc (Nat.le_refl _) _
  obtain ⟨a, c, h1, _, h3, h4, hR⟩ := (h.below hb).opened
  have hx : (w.alloc (Obj.cells #[.int .i64 x] 3)).cell? ⟨w.heap.size, 0, none⟩ = some (.int .i64 x) := by simp
  have hl := list mb _ _ (h1.cell (i := 0) (by omega))
  simp only [mk2, if_true] at hl
  have F : Calls Try.prog 39 #[.slice a rs.length c, .func (.func 41) #[] #[.pointer (some ⟨w.heap.size, 0, none⟩)]] (w.alloc (Obj.cells #[.int .i64 x] 3)) fun e w' => e = .returned (.int .i64 (idz x rs)) ∧ Below w.heap.size w w' := by
    rcases hR.2 with h0 | ⟨b, off, rfl, ⟨cur, fr, hh⟩, hc⟩
    · have : rs = [] := List.eq_nil_of_length_eq_zero h0
      subst this
      refine (indexFunc_none a c w.heap.size _).mono fun e w' ⟨he, hw⟩ => ⟨he, ?_⟩
      subst hw
      exact hb
    · exact (indexFunc_cells b off _ c w.heap.size x rs _ h.len rfl (lt_of_block hh) hc hx).mono fun e w' ⟨he, hw⟩ => ⟨he, hb.trans (hw.mono hb.size)⟩
  have HL := Lib.hid hl
  have HF := Lib.hid F
  generalize rs.length = n at *
  clear hl F hx h1 h3 h4 hR h hb
  go_enter Try.func28, Try.ntmps28
  go_wp2_with fail
  (with_reducible refine HL.out.mono ?_)
  rintro e w' ⟨rfl, rfl⟩
  go_wp2_with fail
  (with_reducible refine HF.out.mono ?_)
  rintro e w' ⟨rfl, b⟩
  have B := Lib.hid b
  clear b
  go_wp2
  go_ret
  exact ⟨rfl, B.out⟩
end Go.Proofs.Ytlihgcpiokaehaa
