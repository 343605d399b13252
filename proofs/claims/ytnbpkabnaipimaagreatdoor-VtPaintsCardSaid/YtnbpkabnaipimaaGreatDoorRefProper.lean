/- The contracts of the reference's Rune and Proper: which runes may be shown, which grids are proper. Condition: the cells lie in memory. -/
import Derived.Test.YtnbpkabnaipimaaGreatDoorData
import Derived.Test.YtnbpkabnaipimaaGreatDoorProper
import Derived.BigRegion
import Derived.Shelf.RegionOpenPlain
namespace Go.Proofs.YtnbpkabnaipimaaGreatDoor
open Go Go.RowKit

/-- May a rune be shown? -/
def okR (c : Int) : Bool := Lib.validRune c && decide (32 ≤ c) && (decide (c < 127) || decide (159 < c)) && decide (0 < wd c)
theorem okR_wide {c : Int} (h : okR c = true) : wd c = 1 ∨ wd c = 2 := by
  have := wd_bounds c
  simp only [okR, Bool.and_eq_true, decide_eq_true_eq] at h
  omega
theorem okR_zero : okR 0 = false := by decide
theorem okR_space : okR 32 = true ∧ wd 32 = 1 := by decide
theorem okR_valid {c : Int} (h : okR c = true) : Lib.validRune c = true := by
  simp only [okR, Bool.and_eq_true] at h
  exact h.1.1.1

theorem refRune (c : Int) (w : World) : Calls Tryz.prog 17 #[.int .i32 c] w fun e w' => e = .returned (.bool (okR c)) ∧ w = w' := by
  have hr := refRight c w
  have ho := refOf c w
  have hw := wd_bounds c
  cases hv : Lib.validRune c
  · rw [hv] at hr
    have HR := Lib.hid hr
    clear hr ho
    go_enter Tryz.func17, Tryz.ntmps17
    go_wp2_with (go_at_call 31; refine (HR.out).mono ?_; rintro e w' ⟨rfl, rfl⟩)
    go_ret
    exact ⟨ret_bool (by simp [okR, hv]), rfl⟩
  · rw [hv] at hr
    have HR := Lib.hid hr
    have HO := Lib.hid ho
    clear hr ho
    by_cases h1 : 32 ≤ c
    · by_cases h2 : c < 127
      · go_enter Tryz.func17, Tryz.ntmps17
        go_wp2_with (first
          | (go_at_call 31; refine (HR.out).mono ?_; rintro e w' ⟨rfl, rfl⟩)
          | (go_at_call 16; refine (HO.out).mono ?_; rintro e w' ⟨rfl, rfl⟩))
        all_goals (go_ret; exact ⟨ret_bool (by simp [okR, hv, h1, h2]; try omega), rfl⟩)
      · by_cases h3 : 159 < c
        · go_enter Tryz.func17, Tryz.ntmps17
          go_wp2_with (first
            | (go_at_call 31; refine (HR.out).mono ?_; rintro e w' ⟨rfl, rfl⟩)
            | (go_at_call 16; refine (HO.out).mono ?_; rintro e w' ⟨rfl, rfl⟩))
          all_goals (go_ret; exact ⟨ret_bool (by simp [okR, hv, h1, h3]; try omega), rfl⟩)
        · go_enter Tryz.func17, Tryz.ntmps17
          go_wp2_with (first
            | (go_at_call 31; refine (HR.out).mono ?_; rintro e w' ⟨rfl, rfl⟩)
            | (go_at_call 16; refine (HO.out).mono ?_; rintro e w' ⟨rfl, rfl⟩))
          all_goals (go_ret; exact ⟨ret_bool (by simp [okR, hv, h1]; try omega), rfl⟩)
    · go_enter Tryz.func17, Tryz.ntmps17
      go_wp2_with (first
        | (go_at_call 31; refine (HR.out).mono ?_; rintro e w' ⟨rfl, rfl⟩)
        | (go_at_call 16; refine (HO.out).mono ?_; rintro e w' ⟨rfl, rfl⟩))
      all_goals (go_ret; exact ⟨ret_bool (by simp [okR, hv]; try omega), rfl⟩)

/-- A proper grid. -/
def Prp (R C : Int) (l : List Cl) : Prop := 1 ≤ R ∧ R ≤ 60 ∧ 1 ≤ C ∧ C ≤ 60 ∧ (l.length : Int) = R * C ∧ ∀ i, i < l.length → CellOk wd okR C.toNat l i

theorem not_style {cols : Nat} {l : List Cl} {k : Nat} {c : Cl} (h : l[k]? = some c) (hs : c.s < 0 ∨ 7 < c.s) : ¬ CellOk wd okR cols l k := by
  rintro ⟨d, hd, h0, h7, -⟩
  rw [h] at hd
  cases hd
  omega
theorem zero_col {cols : Nat} {l : List Cl} {k : Nat} {c : Cl} (h : l[k]? = some c) (h0 : c.r = 0) (hm : k % cols = 0) : ¬ CellOk wd okR cols l k := by
  rintro ⟨d, hd, _, _, hz, _⟩
  rw [h] at hd
  cases hd
  exact (hz h0).1 hm
theorem zero_prev {cols : Nat} {l : List Cl} {k : Nat} {c p : Cl} (h : l[k]? = some c) (h0 : c.r = 0) (hp : l[k - 1]? = some p) (hb : p.r = 0 ∨ wd p.r ≠ 2 ∨ p.s ≠ c.s) : ¬ CellOk wd okR cols l k := by
  rintro ⟨d, hd, _, _, hz, _⟩
  rw [h] at hd
  cases hd
  obtain ⟨_, q, hq, h1, h2, h3⟩ := hz h0
  rw [hp] at hq
  cases hq
  rcases hb with hb | hb | hb
  · exact h1 hb
  · exact hb h2
  · exact hb h3
theorem rune_bad {cols : Nat} {l : List Cl} {k : Nat} {c : Cl} (h : l[k]? = some c) (h0 : c.r ≠ 0) (hb : okR c.r = false) : ¬ CellOk wd okR cols l k := by
  rintro ⟨d, hd, _, _, _, hn⟩
  rw [h] at hd
  cases hd
  rw [(hn h0).1] at hb
  cases hb
theorem wide_col {cols : Nat} {l : List Cl} {k : Nat} {c : Cl} (h : l[k]? = some c) (h0 : c.r ≠ 0) (hw : wd c.r = 2) (hm : k % cols = cols - 1) : ¬ CellOk wd okR cols l k := by
  rintro ⟨d, hd, _, _, _, hn⟩
  rw [h] at hd
  cases hd
  exact ((hn h0).2 hw).1 hm
theorem wide_next {cols : Nat} {l : List Cl} {k : Nat} {c q : Cl} (h : l[k]? = some c) (h0 : c.r ≠ 0) (hw : wd c.r = 2) (hq : l[k + 1]? = some q) (hb : q.r ≠ 0) : ¬ CellOk wd okR cols l k := by
  rintro ⟨d, hd, _, _, _, hn⟩
  rw [h] at hd
  cases hd
  obtain ⟨_, x, hx, h1⟩ := (hn h0).2 hw
  rw [hq] at hx
  cases hx
  exact hb h1
theorem next_in {rows cols k n : Nat} (hn : n = rows * cols) (hk : k < n) (hm : k % cols ≠ cols - 1) : k + 1 < n := by
  rcases Nat.lt_or_ge (k + 1) n with h | h
  · exact h
  · exfalso
    obtain rfl : n = k + 1 := by omega
    apply hm
    have hc : 0 < cols := by
      rcases Nat.eq_zero_or_pos cols with rfl | h
      · omega
      · exact h
    have : (k + 1) % cols = 0 := by rw [hn, Nat.mul_mod_left]
    have h1 := Nat.mod_lt k hc
    rw [Nat.add_mod] at this
    by_cases h2 : cols = 1
    · subst h2; omega
    · rw [Nat.mod_eq_of_lt (show 1 < cols by omega)] at this
      rcases Nat.lt_or_ge (k % cols + 1) cols with h3 | h3
      · rw [Nat.mod_eq_of_lt h3] at this; omega
      · omega

theorem zero_ok {cols : Nat} {l : List Cl} {k : Nat} {c p : Cl} (h : l[k]? = some c) (hs0 : 0 ≤ c.s) (hs7 : c.s ≤ 7) (h0 : c.r = 0) (hm : k % cols ≠ 0) (hp : l[k - 1]? = some p) (h1 : p.r ≠ 0) (h2 : wd p.r = 2) (h3 : p.s = c.s) : CellOk wd okR cols l k :=
  ⟨c, h, hs0, hs7, fun _ => ⟨hm, p, hp, h1, h2, h3⟩, fun hn => absurd h0 hn⟩
theorem wide_ok {cols : Nat} {l : List Cl} {k : Nat} {c q : Cl} (h : l[k]? = some c) (hs0 : 0 ≤ c.s) (hs7 : c.s ≤ 7) (h0 : c.r ≠ 0) (ho : okR c.r = true) (hm : k % cols ≠ cols - 1) (hq : l[k + 1]? = some q) (h1 : q.r = 0) : CellOk wd okR cols l k :=
  ⟨c, h, hs0, hs7, fun hn => absurd hn h0, fun _ => ⟨ho, fun _ => ⟨hm, q, hq, h1⟩⟩⟩
theorem narrow_ok {cols : Nat} {l : List Cl} {k : Nat} {c : Cl} (h : l[k]? = some c) (hs0 : 0 ≤ c.s) (hs7 : c.s ≤ 7) (h0 : c.r ≠ 0) (ho : okR c.r = true) (hw : wd c.r ≠ 2) : CellOk wd okR cols l k :=
  ⟨c, h, hs0, hs7, fun hn => absurd hn h0, fun _ => ⟨ho, fun hn => absurd hn hw⟩⟩

/-- What Proper answers. -/
def GotP (R C : Int) (l : List Cl) (w : World) (e : Ending) (w' : World) : Prop := ∃ b, e = .returned (.bool b) ∧ (b = true ↔ Prp R C l) ∧ Below w.heap.size w w'

set_option maxHeartbeats 8000000 in
set_option maxRecDepth 20000 in
theorem refProper (R C : Int) (a : Option Addr) (n cap : Nat) (l : List Cl) (w : World) (hn : n ≤ 100000) (hl : RowAt w a n l) :
    Calls Tryz.prog 6 #[.int .i64 R, .int .i64 C, .slice a n cap] w (GotP R C l w) := by
  have hlen := hl.1
  have HL := Lib.hid hl
  clear hl
  by_cases h1 : R < 1
  · go_enter Tryz.func6, Tryz.ntmps6
    go_wp2
    go_ret
    exact ⟨false, rfl, ⟨fun h => (by cases h), fun h => absurd h.1 (by omega)⟩, Below.refl _ _⟩
  by_cases h2 : 60 < R
  · go_enter Tryz.func6, Tryz.ntmps6
    go_wp2
    go_ret
    exact ⟨false, rfl, ⟨fun h => (by cases h), fun h => absurd h.2.1 (by omega)⟩, Below.refl _ _⟩
  by_cases h3 : C < 1
  · go_enter Tryz.func6, Tryz.ntmps6
    go_wp2
    go_ret
    exact ⟨false, rfl, ⟨fun h => (by cases h), fun h => absurd h.2.2.1 (by omega)⟩, Below.refl _ _⟩
  by_cases h4 : 60 < C
  · go_enter Tryz.func6, Tryz.ntmps6
    go_wp2
    go_ret
    exact ⟨false, rfl, ⟨fun h => (by cases h), fun h => absurd h.2.2.2.1 (by omega)⟩, Below.refl _ _⟩
  have hb0 : 0 ≤ R * C := Int.mul_nonneg (by omega) (by omega)
  have hb1 : R * C ≤ 3600 := by
    have : R * C ≤ 60 * 60 := Int.mul_le_mul (by omega) (by omega) (by omega) (by omega)
    omega
  by_cases h5 : (n : Int) = R * C
  · obtain ⟨c, rfl⟩ := Int.eq_ofNat_of_zero_le (show 0 ≤ C by omega)
    obtain ⟨r, rfl⟩ := Int.eq_ofNat_of_zero_le (show 0 ≤ R by omega)
    have hnn : n = r * c := by exact_mod_cast h5
    have HNN := Lib.hid hnn
    have hc0 : (c : Int) ≠ 0 := by omega
    clear hnn
    go_enter Tryz.func6, Tryz.ntmps6
    go_wp2
    have H5 := Lib.hid h5
    clear h5 hb0 hb1
    go_loopw [7] (fun i wr => ∃ k : Nat, k ≤ n ∧ i = .int .i64 k ∧ (∀ j, j < k → CellOk wd okR c l j) ∧ Below w.heap.size w wr) (fun i _ => n - (intOf i).toNat)
    case atStart => exact ⟨0, Nat.zero_le _, rfl, fun j hj => absurd hj (by omega), Below.refl _ _⟩
    case round =>
      obtain ⟨k, hk, rfl, hall, hbel⟩ := hrel
      have hsz := hbel.size
      have HB := Lib.hid hbel
      have HA := Lib.hid hall
      clear hbel hall
      by_cases hlt : k < n
      · rcases HL.out.2 with hX | ⟨b, off, rfl, hbl, hc⟩
        · omega
        have HC := Lib.hid (show ∀ j u, (flat l)[j]? = some u → wr.cell? ⟨b, off + j, none⟩ = some u from fun j u hu => (HB.out.cell (by exact hbl)).trans (hc j u hu))
        clear hc
        have NO : ∀ w' : World, Below wr.heap.size wr w' → ¬ CellOk wd okR c l k → GotP r c l w (.returned (.bool false)) w' := fun w' hb hnot =>
          ⟨false, rfl, ⟨fun h => (by cases h), fun h => absurd (by simpa using h.2.2.2.2.2 k (by omega)) hnot⟩, HB.out.trans (hb.mono hsz)⟩
        have YES : ∀ w' : World, Below wr.heap.size wr w' → CellOk wd okR c l k → (∀ j, j < k + 1 → CellOk wd okR c l j) ∧ Below w.heap.size w w' := fun w' hb hyes =>
          ⟨fun j hj => (by
            by_cases h : j < k
            · exact HA.out j h
            · obtain rfl : j = k := by omega
              exact hyes), HB.out.trans (hb.mono hsz)⟩
        have HNO := Lib.hid NO
        have HYES := Lib.hid YES
        clear NO YES
        obtain ⟨d, hd⟩ : ∃ d, l[k]? = some d := ⟨l[k]'(by omega), by simp⟩
        obtain ⟨c0, c1⟩ := clCells (w := wr) HC.out k d hd
        have HD := Lib.hid hd
        clear hd
        obtain ⟨x, s⟩ := d
        simp only at c0 c1
        by_cases hs : s < 0 ∨ 7 < s
        · rcases hs with hs | hs
          · go_wp2
            go_ret
            exact HNO.out _ ((Below.refl _ _).alloc (Nat.le_refl _) _) (not_style HD.out (.inl hs))
          · go_wp2
            go_ret
            exact HNO.out _ ((Below.refl _ _).alloc (Nat.le_refl _) _) (not_style HD.out (.inr hs))
        · have hs0 : 0 ≤ s := by omega
          have hs7 : s ≤ 7 := by omega
          have hd0 : decide (s < 0) = false := by simp; omega
          have hd7 : decide (7 < s) = false := by simp; omega
          clear hs
          by_cases hx : x = 0
          · subst hx
            by_cases hm : k % c = 0
            · have hmi : (k : Int) % (c : Int) = 0 := by exact_mod_cast hm
              have HM := Lib.hid hm
              clear hm
              go_wp2
              go_ret
              exact HNO.out _ ((Below.refl _ _).alloc (Nat.le_refl _) _) (zero_col HD.out rfl HM.out)
            · have hmi : ¬ (k : Int) % (c : Int) = 0 := by exact_mod_cast hm
              have HM := Lib.hid hm
              clear hm
              obtain ⟨i, hi⟩ : ∃ i, k = i + 1 := ⟨k - 1, by
                have : k ≠ 0 := fun h => HM.out (by rw [h, Nat.zero_mod])
                omega⟩
              have ep : (k : Int) - 1 = (i : Int) := by omega
              have hin : (i : Int) < (n : Int) := by omega
              have hi0 : (0 : Int) ≤ (i : Int) := by omega
              have hwi : IntKind.i64.wrap (i : Int) = (i : Int) := IntWalk.i64_in _ (by omega)
              obtain ⟨p, hp⟩ : ∃ p, l[k - 1]? = some p := ⟨l[k - 1]'(by omega), by simp⟩
              have hpi : l[i]? = some p := by rw [hi] at hp; exact hp
              obtain ⟨p0, p1⟩ := clCells (w := wr) HC.out i p hpi
              have HP := Lib.hid hp
              clear hp hpi hi
              obtain ⟨y, t⟩ := p
              simp only at p0 p1
              have HF := Lib.hid (fun W => refOf y W)
              have hbw : b < (wr.alloc (Obj.cells #[.int .i32 0, .int .i64 s] 46)).heap.size := by simp; omega
              have hcw : wr.heap.size < (wr.alloc (Obj.cells #[.int .i32 0, .int .i64 s] 46)).heap.size := by simp
              have X1 : (wr.alloc (Obj.cells #[.int .i32 0, .int .i64 s] 46)).cell? ⟨wr.heap.size, 1, none⟩ = some (.int .i64 s) := by go_simp
              have X2 : (wr.alloc (Obj.cells #[.int .i32 0, .int .i64 s] 46)).cell? ⟨b, off + i * 2, none⟩ = some (.int .i32 y) := (((Below.refl _ _).alloc (Nat.le_refl _) _ : Below wr.heap.size wr (wr.alloc (Obj.cells #[.int .i32 0, .int .i64 s] 46))).cell (by show b < _; omega)).trans p0
              have X3 : (wr.alloc (Obj.cells #[.int .i32 0, .int .i64 s] 46)).cell? ⟨b, off + i * 2 + 1, none⟩ = some (.int .i64 t) := (((Below.refl _ _).alloc (Nat.le_refl _) _ : Below wr.heap.size wr (wr.alloc (Obj.cells #[.int .i32 0, .int .i64 s] 46))).cell (by show b < _; omega)).trans p1
              have KS := Lib.hid (fun (W : World) (h : Below (wr.alloc (Obj.cells #[.int .i32 0, .int .i64 s] 46)).heap.size (wr.alloc (Obj.cells #[.int .i32 0, .int .i64 s] 46)) W) => (show Below (wr.alloc (Obj.cells #[.int .i32 0, .int .i64 s] 46)).heap.size (wr.alloc (Obj.cells #[.int .i32 0, .int .i64 s] 46)) W ∧ W.cell? ⟨wr.heap.size, 1, none⟩ = some (.int .i64 s) ∧ W.cell? ⟨b, off + i * 2, none⟩ = some (.int .i32 y) ∧ W.cell? ⟨b, off + i * 2 + 1, none⟩ = some (.int .i64 t) from
                ⟨h, (h.cell (by exact hcw)).trans X1, (h.cell (by exact hbw)).trans X2, (h.cell (by exact hbw)).trans X3⟩))
              have D1 : (wr.alloc (Obj.cells #[.int .i32 0, .int .i64 s] 46)).drew.cell? ⟨wr.heap.size, 1, none⟩ = some (.int .i64 s) := X1
              have D2 : (wr.alloc (Obj.cells #[.int .i32 0, .int .i64 s] 46)).drew.cell? ⟨b, off + i * 2, none⟩ = some (.int .i32 y) := X2
              clear X1 X2 X3 p0 p1
              by_cases hy : y = 0
              · subst hy
                go_wp2_with fail
                refine wp_region_held_drew (S := (fun W => Below (wr.alloc (Obj.cells #[.int .i32 0, .int .i64 s] 46)).heap.size (wr.alloc (Obj.cells #[.int .i32 0, .int .i64 s] 46)) W ∧ W.cell? ⟨wr.heap.size, 1, none⟩ = some (.int .i64 s) ∧ W.cell? ⟨b, off + i * 2, none⟩ = some (.int .i32 0) ∧ W.cell? ⟨b, off + i * 2 + 1, none⟩ = some (.int .i64 t))) (by kernel_rfl) ?_ (fun hHeld => ?_)
                · (first | exact KS.out _ (Below.refl _ _).drew | exact KS.out _ (by assumption) | assumption)
                refine wpAnyH_take (i := 0) (oi := { dst := some 57, op := Op.move (Operand.tmp 2), type := 31, pos := "ref.go:35", after := #[], guard := none }) (v := ?_) rfl (by kernel_rfl) (by kernel_rfl) (by kernel_rfl) (fun _ _ _ h => h) (Or.inl ⟨by rfl, ?_⟩) (by assumption) ?_
                rotate_left
                · (intro w hSw; (try dsimp only at hSw); go_simp; try with_reducible rfl)
                (try simp only [Act.put, List.setIfInBounds_toArray, List.set_cons_zero, List.set_cons_succ])
                refine wpAnyH_take (i := 1) (oi := { dst := some 58, op := Op.move (Operand.tmp 7), type := 3, pos := "ref.go:35", after := #[], guard := none }) (v := ?_) rfl (by kernel_rfl) (by kernel_rfl) (by kernel_rfl) (fun _ _ _ h => h) (Or.inl ⟨by rfl, ?_⟩) (by assumption) ?_
                rotate_left
                · (intro w hSw; (try dsimp only at hSw); go_simp; try with_reducible rfl)
                (try simp only [Act.put, List.setIfInBounds_toArray, List.set_cons_zero, List.set_cons_succ])
                refine wpAnyH_take (i := 2) (oi := { dst := some 59, op := Op.binOp BinOp.sub 3 (Operand.tmp 58) (Operand.const (Value.int IntKind.i64 1)) 3, type := 3, pos := "ref.go:35", after := #[{ on := 1, ground := Ground.data }], guard := none }) (v := ?_) rfl (by kernel_rfl) (by kernel_rfl) (by kernel_rfl) (fun _ _ _ h => h) (Or.inl ⟨by rfl, ?_⟩) (by assumption) ?_
                rotate_left
                · (intro w hSw; (try dsimp only at hSw); go_simp; try with_reducible rfl)
                (try simp only [Act.put, List.setIfInBounds_toArray, List.set_cons_zero, List.set_cons_succ])
                refine wpAnyH_take (i := 3) (oi := { dst := some 60, op := Op.indexAddr 31 (Operand.tmp 57) (Operand.tmp 59), type := 0, pos := "ref.go:35", after := #[{ on := 0, ground := Ground.data }, { on := 2, ground := Ground.data }], guard := none }) (v := ?_) rfl (by kernel_rfl) (by kernel_rfl) (by kernel_rfl) (fun _ _ _ h => h) (Or.inl ⟨by rfl, ?_⟩) (by assumption) ?_
                rotate_left
                · (intro w hSw; (try dsimp only at hSw); go_simp; try with_reducible rfl)
                (try simp only [Act.put, List.setIfInBounds_toArray, List.set_cons_zero, List.set_cons_succ])
                refine wpAnyH_take (i := 4) (oi := { dst := some 61, op := Op.fieldAddr 46 (Operand.tmp 60) 0, type := 0, pos := "ref.go:35", after := #[{ on := 3, ground := Ground.data }], guard := none }) (v := ?_) rfl (by kernel_rfl) (by kernel_rfl) (by kernel_rfl) (fun _ _ _ h => h) (Or.inl ⟨by rfl, ?_⟩) (by assumption) ?_
                rotate_left
                · (intro w hSw; (try dsimp only at hSw); go_simp; try with_reducible rfl)
                (try simp only [Act.put, List.setIfInBounds_toArray, List.set_cons_zero, List.set_cons_succ])
                refine wpAnyH_take (i := 5) (oi := { dst := some 62, op := Op.load 21 (Operand.tmp 61), type := 21, pos := "ref.go:35", after := #[{ on := 4, ground := Ground.data }], guard := none }) (v := ?_) rfl (by kernel_rfl) (by kernel_rfl) (by kernel_rfl) (fun _ _ _ h => h) (Or.inl ⟨by rfl, ?_⟩) (by assumption) ?_
                rotate_left
                · (intro w hSw; (try dsimp only at hSw); go_simp; try with_reducible rfl)
                (try simp only [Act.put, List.setIfInBounds_toArray, List.set_cons_zero, List.set_cons_succ])
                refine wpAnyH_take (i := 6) (oi := { dst := some 63, op := Op.binOp BinOp.eql 21 (Operand.tmp 62) (Operand.const (Value.int IntKind.i32 0)) 21, type := 4, pos := "ref.go:35", after := #[{ on := 5, ground := Ground.data }], guard := none }) (v := ?_) rfl (by kernel_rfl) (by kernel_rfl) (by kernel_rfl) (fun _ _ _ h => h) (Or.inl ⟨by rfl, ?_⟩) (by assumption) ?_
                rotate_left
                · (intro w hSw; (try dsimp only at hSw); go_simp; try with_reducible rfl)
                (try simp only [Act.put, List.setIfInBounds_toArray, List.set_cons_zero, List.set_cons_succ])
                refine wpAnyH_take (i := 7) (oi := { dst := some 64, op := Op.move (Operand.tmp 63), type := 4, pos := "ref.go:35", after := #[{ on := 6, ground := Ground.data }], guard := none }) (v := ?_) rfl (by kernel_rfl) (by kernel_rfl) (by kernel_rfl) (fun _ _ _ h => h) (Or.inl ⟨by rfl, ?_⟩) (by assumption) ?_
                rotate_left
                · (intro w hSw; (try dsimp only at hSw); go_simp; try with_reducible rfl)
                (try simp only [Act.put, List.setIfInBounds_toArray, List.set_cons_zero, List.set_cons_succ])
                refine wpAnyH_take (i := 8) (oi := { dst := some 65, op := Op.move (Operand.tmp 2), type := 31, pos := "ref.go:35", after := #[{ on := 7, ground := Ground.guard }], guard := some (7, false) }) (v := undef) rfl (by kernel_rfl) (by kernel_rfl) (by kernel_rfl) (fun _ _ _ h => h) (Or.inr ⟨by rfl, rfl⟩) (by assumption) ?_
                (try simp only [Act.put, List.setIfInBounds_toArray, List.set_cons_zero, List.set_cons_succ])
                refine wpAnyH_take (i := 9) (oi := { dst := some 66, op := Op.move (Operand.tmp 7), type := 3, pos := "ref.go:35", after := #[{ on := 7, ground := Ground.guard }], guard := some (7, false) }) (v := undef) rfl (by kernel_rfl) (by kernel_rfl) (by kernel_rfl) (fun _ _ _ h => h) (Or.inr ⟨by rfl, rfl⟩) (by assumption) ?_
                (try simp only [Act.put, List.setIfInBounds_toArray, List.set_cons_zero, List.set_cons_succ])
                refine wpAnyH_take (i := 10) (oi := { dst := some 67, op := Op.binOp BinOp.sub 3 (Operand.tmp 66) (Operand.const (Value.int IntKind.i64 1)) 3, type := 3, pos := "ref.go:35", after := #[{ on := 9, ground := Ground.data }, { on := 7, ground := Ground.guard }], guard := some (7, false) }) (v := undef) rfl (by kernel_rfl) (by kernel_rfl) (by kernel_rfl) (fun _ _ _ h => h) (Or.inr ⟨by rfl, rfl⟩) (by assumption) ?_
                (try simp only [Act.put, List.setIfInBounds_toArray, List.set_cons_zero, List.set_cons_succ])
                refine wpAnyH_take (i := 11) (oi := { dst := some 68, op := Op.indexAddr 31 (Operand.tmp 65) (Operand.tmp 67), type := 0, pos := "ref.go:35", after := #[{ on := 8, ground := Ground.data }, { on := 10, ground := Ground.data }, { on := 7, ground := Ground.guard }], guard := some (7, false) }) (v := undef) rfl (by kernel_rfl) (by kernel_rfl) (by kernel_rfl) (fun _ _ _ h => h) (Or.inr ⟨by rfl, rfl⟩) (by assumption) ?_
                (try simp only [Act.put, List.setIfInBounds_toArray, List.set_cons_zero, List.set_cons_succ])
                refine wpAnyH_take (i := 12) (oi := { dst := some 69, op := Op.fieldAddr 46 (Operand.tmp 68) 0, type := 0, pos := "ref.go:35", after := #[{ on := 11, ground := Ground.data }, { on := 7, ground := Ground.guard }], guard := some (7, false) }) (v := undef) rfl (by kernel_rfl) (by kernel_rfl) (by kernel_rfl) (fun _ _ _ h => h) (Or.inr ⟨by rfl, rfl⟩) (by assumption) ?_
                (try simp only [Act.put, List.setIfInBounds_toArray, List.set_cons_zero, List.set_cons_succ])
                refine wpAnyH_take (i := 13) (oi := { dst := some 70, op := Op.load 21 (Operand.tmp 69), type := 21, pos := "ref.go:35", after := #[{ on := 12, ground := Ground.data }, { on := 7, ground := Ground.guard }], guard := some (7, false) }) (v := undef) rfl (by kernel_rfl) (by kernel_rfl) (by kernel_rfl) (fun _ _ _ h => h) (Or.inr ⟨by rfl, rfl⟩) (by assumption) ?_
                (try simp only [Act.put, List.setIfInBounds_toArray, List.set_cons_zero, List.set_cons_succ])
                refine wpAnyH_take (i := 14) (oi := { dst := some 71, op := Op.call { callee := Callee.value (Operand.func 16), args := #[Operand.tmp 70], argTypes := #[21] }, type := 3, pos := "ref.go:35", after := #[{ on := 13, ground := Ground.data }, { on := 7, ground := Ground.chain }, { on := 7, ground := Ground.guard }], guard := some (7, false) }) (v := undef) rfl (by kernel_rfl) (by kernel_rfl) (by kernel_rfl) (fun _ _ _ h => h) (Or.inr ⟨by rfl, rfl⟩) (by assumption) ?_
                (try simp only [Act.put, List.setIfInBounds_toArray, List.set_cons_zero, List.set_cons_succ])
                refine wpAnyH_take (i := 15) (oi := { dst := some 72, op := Op.binOp BinOp.neq 3 (Operand.tmp 71) (Operand.const (Value.int IntKind.i64 2)) 3, type := 4, pos := "ref.go:35", after := #[{ on := 14, ground := Ground.data }, { on := 7, ground := Ground.guard }], guard := some (7, false) }) (v := undef) rfl (by kernel_rfl) (by kernel_rfl) (by kernel_rfl) (fun _ _ _ h => h) (Or.inr ⟨by rfl, rfl⟩) (by assumption) ?_
                (try simp only [Act.put, List.setIfInBounds_toArray, List.set_cons_zero, List.set_cons_succ])
                refine wpAnyH_take (i := 16) (oi := { dst := some 73, op := Op.pick (Operand.tmp 64) (Operand.const (Value.bool true)) (Operand.tmp 72), type := 4, pos := "ref.go:35", after := #[{ on := 7, ground := Ground.data }, { on := 15, ground := Ground.data }], guard := none }) (v := ?_) rfl (by kernel_rfl) (by kernel_rfl) (by kernel_rfl) (fun _ _ _ h => h) (Or.inl ⟨by rfl, ?_⟩) (by assumption) ?_
                rotate_left
                · (intro w hSw; (try dsimp only at hSw); go_simp; try with_reducible rfl)
                (try simp only [Act.put, List.setIfInBounds_toArray, List.set_cons_zero, List.set_cons_succ])
                refine wpAnyH_take (i := 17) (oi := { dst := some 74, op := Op.move (Operand.tmp 73), type := 4, pos := "ref.go:35", after := #[{ on := 16, ground := Ground.data }, { on := 14, ground := Ground.chain }], guard := none }) (v := ?_) rfl (by kernel_rfl) (by kernel_rfl) (by kernel_rfl) (fun _ _ _ h => h) (Or.inl ⟨by rfl, ?_⟩) (by assumption) ?_
                rotate_left
                · (intro w hSw; (try dsimp only at hSw); go_simp; try with_reducible rfl)
                (try simp only [Act.put, List.setIfInBounds_toArray, List.set_cons_zero, List.set_cons_succ])
                refine wpAnyH_take (i := 18) (oi := { dst := some 75, op := Op.move (Operand.tmp 2), type := 31, pos := "ref.go:35", after := #[{ on := 17, ground := Ground.guard }], guard := some (17, false) }) (v := undef) rfl (by kernel_rfl) (by kernel_rfl) (by kernel_rfl) (fun _ _ _ h => h) (Or.inr ⟨by rfl, rfl⟩) (by assumption) ?_
                (try simp only [Act.put, List.setIfInBounds_toArray, List.set_cons_zero, List.set_cons_succ])
                refine wpAnyH_take (i := 19) (oi := { dst := some 76, op := Op.move (Operand.tmp 7), type := 3, pos := "ref.go:35", after := #[{ on := 17, ground := Ground.guard }], guard := some (17, false) }) (v := undef) rfl (by kernel_rfl) (by kernel_rfl) (by kernel_rfl) (fun _ _ _ h => h) (Or.inr ⟨by rfl, rfl⟩) (by assumption) ?_
                (try simp only [Act.put, List.setIfInBounds_toArray, List.set_cons_zero, List.set_cons_succ])
                refine wpAnyH_take (i := 20) (oi := { dst := some 77, op := Op.binOp BinOp.sub 3 (Operand.tmp 76) (Operand.const (Value.int IntKind.i64 1)) 3, type := 3, pos := "ref.go:35", after := #[{ on := 19, ground := Ground.data }, { on := 17, ground := Ground.guard }], guard := some (17, false) }) (v := undef) rfl (by kernel_rfl) (by kernel_rfl) (by kernel_rfl) (fun _ _ _ h => h) (Or.inr ⟨by rfl, rfl⟩) (by assumption) ?_
                (try simp only [Act.put, List.setIfInBounds_toArray, List.set_cons_zero, List.set_cons_succ])
                refine wpAnyH_take (i := 21) (oi := { dst := some 78, op := Op.indexAddr 31 (Operand.tmp 75) (Operand.tmp 77), type := 0, pos := "ref.go:35", after := #[{ on := 18, ground := Ground.data }, { on := 20, ground := Ground.data }, { on := 17, ground := Ground.guard }], guard := some (17, false) }) (v := undef) rfl (by kernel_rfl) (by kernel_rfl) (by kernel_rfl) (fun _ _ _ h => h) (Or.inr ⟨by rfl, rfl⟩) (by assumption) ?_
                (try simp only [Act.put, List.setIfInBounds_toArray, List.set_cons_zero, List.set_cons_succ])
                refine wpAnyH_take (i := 22) (oi := { dst := some 79, op := Op.fieldAddr 46 (Operand.tmp 78) 1, type := 0, pos := "ref.go:35", after := #[{ on := 21, ground := Ground.data }, { on := 17, ground := Ground.guard }], guard := some (17, false) }) (v := undef) rfl (by kernel_rfl) (by kernel_rfl) (by kernel_rfl) (fun _ _ _ h => h) (Or.inr ⟨by rfl, rfl⟩) (by assumption) ?_
                (try simp only [Act.put, List.setIfInBounds_toArray, List.set_cons_zero, List.set_cons_succ])
                refine wpAnyH_take (i := 23) (oi := { dst := some 80, op := Op.load 3 (Operand.tmp 79), type := 3, pos := "ref.go:35", after := #[{ on := 22, ground := Ground.data }, { on := 17, ground := Ground.guard }], guard := some (17, false) }) (v := undef) rfl (by kernel_rfl) (by kernel_rfl) (by kernel_rfl) (fun _ _ _ h => h) (Or.inr ⟨by rfl, rfl⟩) (by assumption) ?_
                (try simp only [Act.put, List.setIfInBounds_toArray, List.set_cons_zero, List.set_cons_succ])
                refine wpAnyH_take (i := 24) (oi := { dst := some 81, op := Op.fieldAddr 46 (Operand.tmp 8) 1, type := 0, pos := "ref.go:35", after := #[{ on := 17, ground := Ground.guard }], guard := some (17, false) }) (v := undef) rfl (by kernel_rfl) (by kernel_rfl) (by kernel_rfl) (fun _ _ _ h => h) (Or.inr ⟨by rfl, rfl⟩) (by assumption) ?_
                (try simp only [Act.put, List.setIfInBounds_toArray, List.set_cons_zero, List.set_cons_succ])
                refine wpAnyH_take (i := 25) (oi := { dst := some 82, op := Op.load 3 (Operand.tmp 81), type := 3, pos := "ref.go:35", after := #[{ on := 24, ground := Ground.data }, { on := 17, ground := Ground.guard }], guard := some (17, false) }) (v := undef) rfl (by kernel_rfl) (by kernel_rfl) (by kernel_rfl) (fun _ _ _ h => h) (Or.inr ⟨by rfl, rfl⟩) (by assumption) ?_
                (try simp only [Act.put, List.setIfInBounds_toArray, List.set_cons_zero, List.set_cons_succ])
                refine wpAnyH_take (i := 26) (oi := { dst := some 83, op := Op.binOp BinOp.neq 3 (Operand.tmp 80) (Operand.tmp 82) 3, type := 4, pos := "ref.go:35", after := #[{ on := 23, ground := Ground.data }, { on := 25, ground := Ground.data }, { on := 17, ground := Ground.guard }], guard := some (17, false) }) (v := undef) rfl (by kernel_rfl) (by kernel_rfl) (by kernel_rfl) (fun _ _ _ h => h) (Or.inr ⟨by rfl, rfl⟩) (by assumption) ?_
                (try simp only [Act.put, List.setIfInBounds_toArray, List.set_cons_zero, List.set_cons_succ])
                refine wpAnyH_take (i := 27) (oi := { dst := some 84, op := Op.pick (Operand.tmp 74) (Operand.const (Value.bool true)) (Operand.tmp 83), type := 4, pos := "ref.go:35", after := #[{ on := 17, ground := Ground.data }, { on := 26, ground := Ground.data }], guard := none }) (v := ?_) rfl (by kernel_rfl) (by kernel_rfl) (by kernel_rfl) (fun _ _ _ h => h) (Or.inl ⟨by rfl, ?_⟩) (by assumption) ?_
                rotate_left
                · (intro w hSw; (try dsimp only at hSw); go_simp; try with_reducible rfl)
                (try simp only [Act.put, List.setIfInBounds_toArray, List.set_cons_zero, List.set_cons_succ])
                refine wpAnyH_done (by kernel_rfl) ?_ _
                clear hHeld
                go_wp2
                go_ret
                exact HNO.out _ (((Below.refl _ _).alloc (Nat.le_refl _) _).drew) (zero_prev HD.out rfl HP.out (.inl rfl))

              · have hyb : (y == 0) = false := by simp [hy]
                clear D1 D2
                by_cases hw : wd y = 2
                · by_cases ht : s = t
                  · subst ht
                    go_wp2_with fail
                    go_region_held3 (fun W => Below (wr.alloc (Obj.cells #[.int .i32 0, .int .i64 s] 46)).heap.size (wr.alloc (Obj.cells #[.int .i32 0, .int .i64 s] 46)) W ∧ W.cell? ⟨wr.heap.size, 1, none⟩ = some (.int .i64 s) ∧ W.cell? ⟨b, off + i * 2, none⟩ = some (.int .i32 y) ∧ W.cell? ⟨b, off + i * 2 + 1, none⟩ = some (.int .i64 s))
                      (first | exact KS.out _ (Below.refl _ _).drew | exact KS.out _ (by assumption) | assumption)
                      (first
                        | (go_at_call 16; (with_reducible refine (HF.out _).mono ?_); rintro e w' ⟨rfl, rfl⟩))
                    rename_i hHeldS
                    clear hHeldS
                    have OKK := Lib.hid (HYES.out _ (((Below.refl _ _).alloc (Nat.le_refl _) (Obj.cells #[.int .i32 0, .int .i64 s] 46)).drew) (zero_ok HD.out hs0 hs7 rfl HM.out HP.out hy hw rfl))
                    go_wp2
                    go_roundw
                    case rel => exact ⟨k + 1, by omega, by go_num, OKK.out.1, OKK.out.2⟩
                    case measure => simp [intOf]; omega

                  · have htb : (t == s) = false := by simp; omega
                    go_wp2_with fail
                    go_region_held3 (fun W => Below (wr.alloc (Obj.cells #[.int .i32 0, .int .i64 s] 46)).heap.size (wr.alloc (Obj.cells #[.int .i32 0, .int .i64 s] 46)) W ∧ W.cell? ⟨wr.heap.size, 1, none⟩ = some (.int .i64 s) ∧ W.cell? ⟨b, off + i * 2, none⟩ = some (.int .i32 y) ∧ W.cell? ⟨b, off + i * 2 + 1, none⟩ = some (.int .i64 t))
                      (first | exact KS.out _ (Below.refl _ _).drew | exact KS.out _ (by assumption) | assumption)
                      (first
                        | (go_at_call 16; (with_reducible refine (HF.out _).mono ?_); rintro e w' ⟨rfl, rfl⟩))
                    rename_i hHeldS
                    clear hHeldS
                    go_wp2
                    go_ret
                    exact HNO.out _ (((Below.refl _ _).alloc (Nat.le_refl _) _).drew) (zero_prev HD.out rfl HP.out (.inr (.inr (fun h => ht h.symm))))

                · have hwb : (wd y != 2) = true := by simp [hw]
                  go_wp2_with fail
                  refine wp_region_held_drew (S := (fun W => Below (wr.alloc (Obj.cells #[.int .i32 0, .int .i64 s] 46)).heap.size (wr.alloc (Obj.cells #[.int .i32 0, .int .i64 s] 46)) W ∧ W.cell? ⟨wr.heap.size, 1, none⟩ = some (.int .i64 s) ∧ W.cell? ⟨b, off + i * 2, none⟩ = some (.int .i32 y) ∧ W.cell? ⟨b, off + i * 2 + 1, none⟩ = some (.int .i64 t))) (by kernel_rfl) ?_ (fun hHeld => ?_)
                  · (first | exact KS.out _ (Below.refl _ _).drew | exact KS.out _ (by assumption) | assumption)
                  refine wpAnyH_take (i := 0) (oi := { dst := some 57, op := Op.move (Operand.tmp 2), type := 31, pos := "ref.go:35", after := #[], guard := none }) (v := ?_) rfl (by kernel_rfl) (by kernel_rfl) (by kernel_rfl) (fun _ _ _ h => h) (Or.inl ⟨by rfl, ?_⟩) (by assumption) ?_
                  rotate_left
                  · (intro w hSw; (try dsimp only at hSw); go_simp; try with_reducible rfl)
                  (try simp only [Act.put, List.setIfInBounds_toArray, List.set_cons_zero, List.set_cons_succ])
                  refine wpAnyH_take (i := 1) (oi := { dst := some 58, op := Op.move (Operand.tmp 7), type := 3, pos := "ref.go:35", after := #[], guard := none }) (v := ?_) rfl (by kernel_rfl) (by kernel_rfl) (by kernel_rfl) (fun _ _ _ h => h) (Or.inl ⟨by rfl, ?_⟩) (by assumption) ?_
                  rotate_left
                  · (intro w hSw; (try dsimp only at hSw); go_simp; try with_reducible rfl)
                  (try simp only [Act.put, List.setIfInBounds_toArray, List.set_cons_zero, List.set_cons_succ])
                  refine wpAnyH_take (i := 2) (oi := { dst := some 59, op := Op.binOp BinOp.sub 3 (Operand.tmp 58) (Operand.const (Value.int IntKind.i64 1)) 3, type := 3, pos := "ref.go:35", after := #[{ on := 1, ground := Ground.data }], guard := none }) (v := ?_) rfl (by kernel_rfl) (by kernel_rfl) (by kernel_rfl) (fun _ _ _ h => h) (Or.inl ⟨by rfl, ?_⟩) (by assumption) ?_
                  rotate_left
                  · (intro w hSw; (try dsimp only at hSw); go_simp; try with_reducible rfl)
                  (try simp only [Act.put, List.setIfInBounds_toArray, List.set_cons_zero, List.set_cons_succ])
                  refine wpAnyH_take (i := 3) (oi := { dst := some 60, op := Op.indexAddr 31 (Operand.tmp 57) (Operand.tmp 59), type := 0, pos := "ref.go:35", after := #[{ on := 0, ground := Ground.data }, { on := 2, ground := Ground.data }], guard := none }) (v := ?_) rfl (by kernel_rfl) (by kernel_rfl) (by kernel_rfl) (fun _ _ _ h => h) (Or.inl ⟨by rfl, ?_⟩) (by assumption) ?_
                  rotate_left
                  · (intro w hSw; (try dsimp only at hSw); go_simp; try with_reducible rfl)
                  (try simp only [Act.put, List.setIfInBounds_toArray, List.set_cons_zero, List.set_cons_succ])
                  refine wpAnyH_take (i := 4) (oi := { dst := some 61, op := Op.fieldAddr 46 (Operand.tmp 60) 0, type := 0, pos := "ref.go:35", after := #[{ on := 3, ground := Ground.data }], guard := none }) (v := ?_) rfl (by kernel_rfl) (by kernel_rfl) (by kernel_rfl) (fun _ _ _ h => h) (Or.inl ⟨by rfl, ?_⟩) (by assumption) ?_
                  rotate_left
                  · (intro w hSw; (try dsimp only at hSw); go_simp; try with_reducible rfl)
                  (try simp only [Act.put, List.setIfInBounds_toArray, List.set_cons_zero, List.set_cons_succ])
                  refine wpAnyH_take (i := 5) (oi := { dst := some 62, op := Op.load 21 (Operand.tmp 61), type := 21, pos := "ref.go:35", after := #[{ on := 4, ground := Ground.data }], guard := none }) (v := ?_) rfl (by kernel_rfl) (by kernel_rfl) (by kernel_rfl) (fun _ _ _ h => h) (Or.inl ⟨by rfl, ?_⟩) (by assumption) ?_
                  rotate_left
                  · (intro w hSw; (try dsimp only at hSw); go_simp; try with_reducible rfl)
                  (try simp only [Act.put, List.setIfInBounds_toArray, List.set_cons_zero, List.set_cons_succ])
                  refine wpAnyH_take (i := 6) (oi := { dst := some 63, op := Op.binOp BinOp.eql 21 (Operand.tmp 62) (Operand.const (Value.int IntKind.i32 0)) 21, type := 4, pos := "ref.go:35", after := #[{ on := 5, ground := Ground.data }], guard := none }) (v := ?_) rfl (by kernel_rfl) (by kernel_rfl) (by kernel_rfl) (fun _ _ _ h => h) (Or.inl ⟨by rfl, ?_⟩) (by assumption) ?_
                  rotate_left
                  · (intro w hSw; (try dsimp only at hSw); go_simp; try with_reducible rfl)
                  (try simp only [Act.put, List.setIfInBounds_toArray, List.set_cons_zero, List.set_cons_succ])
                  refine wpAnyH_take (i := 7) (oi := { dst := some 64, op := Op.move (Operand.tmp 63), type := 4, pos := "ref.go:35", after := #[{ on := 6, ground := Ground.data }], guard := none }) (v := ?_) rfl (by kernel_rfl) (by kernel_rfl) (by kernel_rfl) (fun _ _ _ h => h) (Or.inl ⟨by rfl, ?_⟩) (by assumption) ?_
                  rotate_left
                  · (intro w hSw; (try dsimp only at hSw); go_simp; try with_reducible rfl)
                  (try simp only [Act.put, List.setIfInBounds_toArray, List.set_cons_zero, List.set_cons_succ])
                  refine wpAnyH_take (i := 8) (oi := { dst := some 65, op := Op.move (Operand.tmp 2), type := 31, pos := "ref.go:35", after := #[{ on := 7, ground := Ground.guard }], guard := some (7, false) }) (v := ?_) rfl (by kernel_rfl) (by kernel_rfl) (by kernel_rfl) (fun _ _ _ h => h) (Or.inl ⟨by rfl, ?_⟩) (by assumption) ?_
                  rotate_left
                  · (intro w hSw; (try dsimp only at hSw); go_simp; try with_reducible rfl)
                  (try simp only [Act.put, List.setIfInBounds_toArray, List.set_cons_zero, List.set_cons_succ])
                  refine wpAnyH_take (i := 9) (oi := { dst := some 66, op := Op.move (Operand.tmp 7), type := 3, pos := "ref.go:35", after := #[{ on := 7, ground := Ground.guard }], guard := some (7, false) }) (v := ?_) rfl (by kernel_rfl) (by kernel_rfl) (by kernel_rfl) (fun _ _ _ h => h) (Or.inl ⟨by rfl, ?_⟩) (by assumption) ?_
                  rotate_left
                  · (intro w hSw; (try dsimp only at hSw); go_simp; try with_reducible rfl)
                  (try simp only [Act.put, List.setIfInBounds_toArray, List.set_cons_zero, List.set_cons_succ])
                  refine wpAnyH_take (i := 10) (oi := { dst := some 67, op := Op.binOp BinOp.sub 3 (Operand.tmp 66) (Operand.const (Value.int IntKind.i64 1)) 3, type := 3, pos := "ref.go:35", after := #[{ on := 9, ground := Ground.data }, { on := 7, ground := Ground.guard }], guard := some (7, false) }) (v := ?_) rfl (by kernel_rfl) (by kernel_rfl) (by kernel_rfl) (fun _ _ _ h => h) (Or.inl ⟨by rfl, ?_⟩) (by assumption) ?_
                  rotate_left
                  · (intro w hSw; (try dsimp only at hSw); go_simp; try with_reducible rfl)
                  (try simp only [Act.put, List.setIfInBounds_toArray, List.set_cons_zero, List.set_cons_succ])
                  refine wpAnyH_take (i := 11) (oi := { dst := some 68, op := Op.indexAddr 31 (Operand.tmp 65) (Operand.tmp 67), type := 0, pos := "ref.go:35", after := #[{ on := 8, ground := Ground.data }, { on := 10, ground := Ground.data }, { on := 7, ground := Ground.guard }], guard := some (7, false) }) (v := ?_) rfl (by kernel_rfl) (by kernel_rfl) (by kernel_rfl) (fun _ _ _ h => h) (Or.inl ⟨by rfl, ?_⟩) (by assumption) ?_
                  rotate_left
                  · (intro w hSw; (try dsimp only at hSw); go_simp; try with_reducible rfl)
                  (try simp only [Act.put, List.setIfInBounds_toArray, List.set_cons_zero, List.set_cons_succ])
                  refine wpAnyH_take (i := 12) (oi := { dst := some 69, op := Op.fieldAddr 46 (Operand.tmp 68) 0, type := 0, pos := "ref.go:35", after := #[{ on := 11, ground := Ground.data }, { on := 7, ground := Ground.guard }], guard := some (7, false) }) (v := ?_) rfl (by kernel_rfl) (by kernel_rfl) (by kernel_rfl) (fun _ _ _ h => h) (Or.inl ⟨by rfl, ?_⟩) (by assumption) ?_
                  rotate_left
                  · (intro w hSw; (try dsimp only at hSw); go_simp; try with_reducible rfl)
                  (try simp only [Act.put, List.setIfInBounds_toArray, List.set_cons_zero, List.set_cons_succ])
                  refine wpAnyH_take (i := 13) (oi := { dst := some 70, op := Op.load 21 (Operand.tmp 69), type := 21, pos := "ref.go:35", after := #[{ on := 12, ground := Ground.data }, { on := 7, ground := Ground.guard }], guard := some (7, false) }) (v := ?_) rfl (by kernel_rfl) (by kernel_rfl) (by kernel_rfl) (fun _ _ _ h => h) (Or.inl ⟨by rfl, ?_⟩) (by assumption) ?_
                  rotate_left
                  · (intro w hSw; (try dsimp only at hSw); go_simp; try with_reducible rfl)
                  (try simp only [Act.put, List.setIfInBounds_toArray, List.set_cons_zero, List.set_cons_succ])
                  refine wpAnyH_ready (rs := [14]) (by kernel_rfl) (by simp) ?_
                  refine AllReadyH.cons (o := { dst := some 71, op := Op.call { callee := Callee.value (Operand.func 16), args := #[Operand.tmp 70], argTypes := #[21] }, type := 3, pos := "ref.go:35", after := #[{ on := 13, ground := Ground.data }, { on := 7, ground := Ground.chain }, { on := 7, ground := Ground.guard }], guard := some (7, false) }) rfl (fun K hK => ?_) AllReadyH.nil
                  (go_simp; go_at_call 16; (with_reducible refine (HF.out _).mono ?_); rintro e w' ⟨rfl, rfl⟩; go_wp2_with fail)
                  refine hK.out _ _ ?_ (fun hHeld2 => ?_)
                  · (first | exact KS.out _ (Below.refl _ _).drew | exact KS.out _ (by assumption) | assumption)
                  clear hK K
                  (try simp only [Act.put, List.setIfInBounds_toArray, List.set_cons_zero, List.set_cons_succ])
                  clear hHeld; have hHeld := hHeld2; clear hHeld2
                  refine wpAnyH_take (i := 15) (oi := { dst := some 72, op := Op.binOp BinOp.neq 3 (Operand.tmp 71) (Operand.const (Value.int IntKind.i64 2)) 3, type := 4, pos := "ref.go:35", after := #[{ on := 14, ground := Ground.data }, { on := 7, ground := Ground.guard }], guard := some (7, false) }) (v := ?_) rfl (by kernel_rfl) (by kernel_rfl) (by kernel_rfl) (fun _ _ _ h => h) (Or.inl ⟨by rfl, ?_⟩) (by assumption) ?_
                  rotate_left
                  · (intro w hSw; (try dsimp only at hSw); go_simp; try with_reducible rfl)
                  (try simp only [Act.put, List.setIfInBounds_toArray, List.set_cons_zero, List.set_cons_succ])
                  refine wpAnyH_take (i := 16) (oi := { dst := some 73, op := Op.pick (Operand.tmp 64) (Operand.const (Value.bool true)) (Operand.tmp 72), type := 4, pos := "ref.go:35", after := #[{ on := 7, ground := Ground.data }, { on := 15, ground := Ground.data }], guard := none }) (v := ?_) rfl (by kernel_rfl) (by kernel_rfl) (by kernel_rfl) (fun _ _ _ h => h) (Or.inl ⟨by rfl, ?_⟩) (by assumption) ?_
                  rotate_left
                  · (intro w hSw; (try dsimp only at hSw); go_simp; try with_reducible rfl)
                  (try simp only [Act.put, List.setIfInBounds_toArray, List.set_cons_zero, List.set_cons_succ])
                  refine wpAnyH_take (i := 17) (oi := { dst := some 74, op := Op.move (Operand.tmp 73), type := 4, pos := "ref.go:35", after := #[{ on := 16, ground := Ground.data }, { on := 14, ground := Ground.chain }], guard := none }) (v := ?_) rfl (by kernel_rfl) (by kernel_rfl) (by kernel_rfl) (fun _ _ _ h => h) (Or.inl ⟨by rfl, ?_⟩) (by assumption) ?_
                  rotate_left
                  · (intro w hSw; (try dsimp only at hSw); go_simp; try with_reducible rfl)
                  (try simp only [Act.put, List.setIfInBounds_toArray, List.set_cons_zero, List.set_cons_succ])
                  refine wpAnyH_take (i := 18) (oi := { dst := some 75, op := Op.move (Operand.tmp 2), type := 31, pos := "ref.go:35", after := #[{ on := 17, ground := Ground.guard }], guard := some (17, false) }) (v := undef) rfl (by kernel_rfl) (by kernel_rfl) (by kernel_rfl) (fun _ _ _ h => h) (Or.inr ⟨by rfl, rfl⟩) (by assumption) ?_
                  (try simp only [Act.put, List.setIfInBounds_toArray, List.set_cons_zero, List.set_cons_succ])
                  refine wpAnyH_take (i := 19) (oi := { dst := some 76, op := Op.move (Operand.tmp 7), type := 3, pos := "ref.go:35", after := #[{ on := 17, ground := Ground.guard }], guard := some (17, false) }) (v := undef) rfl (by kernel_rfl) (by kernel_rfl) (by kernel_rfl) (fun _ _ _ h => h) (Or.inr ⟨by rfl, rfl⟩) (by assumption) ?_
                  (try simp only [Act.put, List.setIfInBounds_toArray, List.set_cons_zero, List.set_cons_succ])
                  refine wpAnyH_take (i := 20) (oi := { dst := some 77, op := Op.binOp BinOp.sub 3 (Operand.tmp 76) (Operand.const (Value.int IntKind.i64 1)) 3, type := 3, pos := "ref.go:35", after := #[{ on := 19, ground := Ground.data }, { on := 17, ground := Ground.guard }], guard := some (17, false) }) (v := undef) rfl (by kernel_rfl) (by kernel_rfl) (by kernel_rfl) (fun _ _ _ h => h) (Or.inr ⟨by rfl, rfl⟩) (by assumption) ?_
                  (try simp only [Act.put, List.setIfInBounds_toArray, List.set_cons_zero, List.set_cons_succ])
                  refine wpAnyH_take (i := 21) (oi := { dst := some 78, op := Op.indexAddr 31 (Operand.tmp 75) (Operand.tmp 77), type := 0, pos := "ref.go:35", after := #[{ on := 18, ground := Ground.data }, { on := 20, ground := Ground.data }, { on := 17, ground := Ground.guard }], guard := some (17, false) }) (v := undef) rfl (by kernel_rfl) (by kernel_rfl) (by kernel_rfl) (fun _ _ _ h => h) (Or.inr ⟨by rfl, rfl⟩) (by assumption) ?_
                  (try simp only [Act.put, List.setIfInBounds_toArray, List.set_cons_zero, List.set_cons_succ])
                  refine wpAnyH_take (i := 22) (oi := { dst := some 79, op := Op.fieldAddr 46 (Operand.tmp 78) 1, type := 0, pos := "ref.go:35", after := #[{ on := 21, ground := Ground.data }, { on := 17, ground := Ground.guard }], guard := some (17, false) }) (v := undef) rfl (by kernel_rfl) (by kernel_rfl) (by kernel_rfl) (fun _ _ _ h => h) (Or.inr ⟨by rfl, rfl⟩) (by assumption) ?_
                  (try simp only [Act.put, List.setIfInBounds_toArray, List.set_cons_zero, List.set_cons_succ])
                  refine wpAnyH_take (i := 23) (oi := { dst := some 80, op := Op.load 3 (Operand.tmp 79), type := 3, pos := "ref.go:35", after := #[{ on := 22, ground := Ground.data }, { on := 17, ground := Ground.guard }], guard := some (17, false) }) (v := undef) rfl (by kernel_rfl) (by kernel_rfl) (by kernel_rfl) (fun _ _ _ h => h) (Or.inr ⟨by rfl, rfl⟩) (by assumption) ?_
                  (try simp only [Act.put, List.setIfInBounds_toArray, List.set_cons_zero, List.set_cons_succ])
                  refine wpAnyH_take (i := 24) (oi := { dst := some 81, op := Op.fieldAddr 46 (Operand.tmp 8) 1, type := 0, pos := "ref.go:35", after := #[{ on := 17, ground := Ground.guard }], guard := some (17, false) }) (v := undef) rfl (by kernel_rfl) (by kernel_rfl) (by kernel_rfl) (fun _ _ _ h => h) (Or.inr ⟨by rfl, rfl⟩) (by assumption) ?_
                  (try simp only [Act.put, List.setIfInBounds_toArray, List.set_cons_zero, List.set_cons_succ])
                  refine wpAnyH_take (i := 25) (oi := { dst := some 82, op := Op.load 3 (Operand.tmp 81), type := 3, pos := "ref.go:35", after := #[{ on := 24, ground := Ground.data }, { on := 17, ground := Ground.guard }], guard := some (17, false) }) (v := undef) rfl (by kernel_rfl) (by kernel_rfl) (by kernel_rfl) (fun _ _ _ h => h) (Or.inr ⟨by rfl, rfl⟩) (by assumption) ?_
                  (try simp only [Act.put, List.setIfInBounds_toArray, List.set_cons_zero, List.set_cons_succ])
                  refine wpAnyH_take (i := 26) (oi := { dst := some 83, op := Op.binOp BinOp.neq 3 (Operand.tmp 80) (Operand.tmp 82) 3, type := 4, pos := "ref.go:35", after := #[{ on := 23, ground := Ground.data }, { on := 25, ground := Ground.data }, { on := 17, ground := Ground.guard }], guard := some (17, false) }) (v := undef) rfl (by kernel_rfl) (by kernel_rfl) (by kernel_rfl) (fun _ _ _ h => h) (Or.inr ⟨by rfl, rfl⟩) (by assumption) ?_
                  (try simp only [Act.put, List.setIfInBounds_toArray, List.set_cons_zero, List.set_cons_succ])
                  refine wpAnyH_take (i := 27) (oi := { dst := some 84, op := Op.pick (Operand.tmp 74) (Operand.const (Value.bool true)) (Operand.tmp 83), type := 4, pos := "ref.go:35", after := #[{ on := 17, ground := Ground.data }, { on := 26, ground := Ground.data }], guard := none }) (v := ?_) rfl (by kernel_rfl) (by kernel_rfl) (by kernel_rfl) (fun _ _ _ h => h) (Or.inl ⟨by rfl, ?_⟩) (by assumption) ?_
                  rotate_left
                  · (intro w hSw; (try dsimp only at hSw); go_simp; try with_reducible rfl)
                  (try simp only [Act.put, List.setIfInBounds_toArray, List.set_cons_zero, List.set_cons_succ])
                  refine wpAnyH_done (by kernel_rfl) ?_ _
                  clear hHeld
                  go_wp2
                  go_ret
                  exact HNO.out _ (((Below.refl _ _).alloc (Nat.le_refl _) _).drew) (zero_prev HD.out rfl HP.out (.inr (.inl hw)))

          · have RF := Lib.hid (fun W => refRune x W)
            have OF := Lib.hid (fun W => refOf x W)
            cases hk : okR x
            · rw [hk] at RF
              go_wp2_with (go_at_call 17; (with_reducible refine (RF.out _).mono ?_); rintro e w' ⟨rfl, rfl⟩)
              go_ret
              exact HNO.out _ ((Below.refl _ _).alloc (Nat.le_refl _) _) (rune_bad HD.out hx hk)
            · rw [hk] at RF
              have HKK := Lib.hid hk
              clear hk
              by_cases hw : wd x = 2
              · by_cases hm : k % c = c - 1
                · have hmi : ((k : Int) % (c : Int) == (c : Int) - 1) = true := by
                    have : (k : Int) % (c : Int) = ((k % c : Nat) : Int) := rfl
                    simp only [beq_iff_eq]
                    omega
                  have HM := Lib.hid hm
                  clear hm
                  go_wp2_with (first
                    | (go_at_call 17; (with_reducible refine (RF.out _).mono ?_); rintro e w' ⟨rfl, rfl⟩)
                    | (go_at_call 16; (with_reducible refine (OF.out _).mono ?_); rintro e w' ⟨rfl, rfl⟩))
                  go_ret
                  exact HNO.out _ ((Below.refl _ _).alloc (Nat.le_refl _) _) (wide_col HD.out hx hw HM.out)
                · have hmi : ((k : Int) % (c : Int) == (c : Int) - 1) = false := by
                    have : (k : Int) % (c : Int) = ((k % c : Nat) : Int) := rfl
                    simp only [beq_eq_false_iff_ne, ne_eq]
                    omega
                  have HM := Lib.hid hm
                  have hk1 : k + 1 < n := next_in HNN.out hlt hm
                  clear hm
                  have hkn1 : (k : Int) + 1 < (n : Int) := by omega
                  have hk10 : (0 : Int) ≤ (k : Int) + 1 := by omega
                  obtain ⟨q, hq⟩ : ∃ q, l[k + 1]? = some q := ⟨l[k + 1]'(by omega), by simp⟩
                  obtain ⟨q0, q1⟩ := clCells (w := wr) HC.out (k + 1) q hq
                  have HQ := Lib.hid hq
                  clear hq q1
                  obtain ⟨y, t⟩ := q
                  simp only at q0
                  have q2 : (wr.alloc (Obj.cells #[.int .i32 x, .int .i64 s] 46)).cell? ⟨b, off + (k + 1) * 2, none⟩ = some (.int .i32 y) := (((Below.refl _ _).alloc (Nat.le_refl _) _ : Below wr.heap.size wr (wr.alloc (Obj.cells #[.int .i32 x, .int .i64 s] 46))).cell (by show b < _; omega)).trans q0
                  clear q0
                  by_cases hy : y = 0
                  · subst hy
                    have OKK := Lib.hid (HYES.out _ ((Below.refl _ _).alloc (Nat.le_refl _) (Obj.cells #[.int .i32 x, .int .i64 s] 46)) (wide_ok HD.out hs0 hs7 hx HKK.out HM.out HQ.out rfl))
                    go_wp2_with (first
                      | (go_at_call 17; (with_reducible refine (RF.out _).mono ?_); rintro e w' ⟨rfl, rfl⟩)
                      | (go_at_call 16; (with_reducible refine (OF.out _).mono ?_); rintro e w' ⟨rfl, rfl⟩))
                    go_roundw
                    case rel => exact ⟨k + 1, by omega, by go_num, OKK.out.1, OKK.out.2⟩
                    case measure => simp [intOf]; omega
                  · go_wp2_with (first
                      | (go_at_call 17; (with_reducible refine (RF.out _).mono ?_); rintro e w' ⟨rfl, rfl⟩)
                      | (go_at_call 16; (with_reducible refine (OF.out _).mono ?_); rintro e w' ⟨rfl, rfl⟩))
                    go_ret
                    exact HNO.out _ ((Below.refl _ _).alloc (Nat.le_refl _) _) (wide_next HD.out hx hw HQ.out hy)
              · have OKK := Lib.hid (HYES.out _ ((Below.refl _ _).alloc (Nat.le_refl _) (Obj.cells #[.int .i32 x, .int .i64 s] 46)) (narrow_ok HD.out hs0 hs7 hx HKK.out hw))
                go_wp2_with (first
                  | (go_at_call 17; (with_reducible refine (RF.out _).mono ?_); rintro e w' ⟨rfl, rfl⟩)
                  | (go_at_call 16; (with_reducible refine (OF.out _).mono ?_); rintro e w' ⟨rfl, rfl⟩))
                go_roundw
                case rel => exact ⟨k + 1, by omega, by go_num, OKK.out.1, OKK.out.2⟩
                case measure => simp [intOf]; omega
      · obtain rfl : k = n := by omega
        go_wp2
        go_ret
        refine ⟨true, rfl, ⟨fun _ => ⟨by omega, by omega, by omega, by omega, by rw [hlen]; exact H5.out, fun i hi => ?_⟩, fun _ => rfl⟩, HB.out⟩
        have := HA.out i (by omega)
        simpa using this
  · go_enter Tryz.func6, Tryz.ntmps6
    go_wp2
    go_ret
    exact ⟨false, rfl, ⟨fun h => (by cases h), fun h => absurd h.2.2.2.2.1 (by rw [hlen]; exact h5)⟩, Below.refl _ _⟩
end Go.Proofs.YtnbpkabnaipimaaGreatDoor
