/- The contracts of slices.Clone and Edit. Conditions: the marks lie in memory; not too many runes. -/
import Derived.Test.YtlihgcpiokaehaaAdd
import Derived.Deep.RegionWith
import Derived.Laws.OwnMore
namespace Go.Proofs.Ytlihgcpiokaehaa
open Go Go.RowKit

/-- What a range with its number moves to. -/
def mvR (x d : Int) (n : Nat) (y : Rg) : Rg := ⟨mf y.f x d n y.l, mt y.f y.t x d n y.l y.r, y.l, y.r, y.i⟩
/-- Does no range go too far? -/
def fits (x d : Int) (n : Nat) (rs : List Rg) : Bool := rs.all fun y => decide (mt y.f y.t x d n y.l y.r ≤ 2147483648)
/-- Those up to j have moved. -/
def part (x d : Int) (n : Nat) (rs : List Rg) (j : Nat) : List Rg := (rs.take j).map (mvR x d n) ++ rs.drop j

theorem part_zero (x d : Int) (n : Nat) (rs : List Rg) : part x d n rs 0 = rs := by simp [part]
theorem part_len (x d : Int) (n : Nat) (rs : List Rg) (j : Nat) : (part x d n rs j).length = rs.length := by simp [part]; omega
theorem part_all (x d : Int) (n : Nat) (rs : List Rg) (j : Nat) (h : rs.length ≤ j) : part x d n rs j = rs.map (mvR x d n) := by
  unfold part; rw [List.take_of_length_le h, List.drop_of_length_le h, List.append_nil]
theorem part_at (x d : Int) (n : Nat) (rs : List Rg) (j : Nat) (y : Rg) (h : rs[j]? = some y) : (part x d n rs j)[j]? = some y := by
  have hlt := (List.getElem?_eq_some_iff.1 h).1
  unfold part
  rw [List.getElem?_append_right (by simp; omega)]
  simp only [List.length_map, List.length_take, List.getElem?_drop]
  rw [show j + (j - min j rs.length) = j by omega]
  exact h
theorem part_next (x d : Int) (n : Nat) (rs : List Rg) (j : Nat) (y : Rg) (h : rs[j]? = some y) : (part x d n rs j).set j (mvR x d n y) = part x d n rs (j + 1) := by
  obtain ⟨hlt, rfl⟩ := List.getElem?_eq_some_iff.1 h
  unfold part
  rw [List.set_append_right _ _ (by simp; omega)]
  simp only [List.length_map, List.length_take]
  rw [show j - min j rs.length = 0 by omega, List.drop_eq_getElem_cons hlt, List.set_cons_zero, List.take_add_one, List.getElem?_eq_getElem hlt, List.map_append, List.append_assoc]
  rfl
theorem flat_set (l : List Rg) (j : Nat) (x y : Rg) (h : l[j]? = some x) (hi : y.i = x.i) :
    flat (l.set j y) = ((((flat l).set (j * 5) (.int .i64 y.f)).set (j * 5 + 1) (.int .i64 y.t)).set (j * 5 + 2) (.bool y.l)).set (j * 5 + 3) (.bool y.r) := by
  induction l generalizing j with
  | nil => cases h
  | cons z r ih =>
    cases j with
    | zero =>
      cases h
      rw [List.set_cons_zero, flat_cons, flat_cons]
      simp [Rg.cells, hi]
    | succ j =>
      rw [List.set_cons_succ, flat_cons, ih j (by simpa using h), flat_cons]
      rw [List.set_append_right _ _ (by simp [Rg.cells]; omega), List.set_append_right _ _ (by simp [Rg.cells]; omega), List.set_append_right _ _ (by simp [Rg.cells]; omega), List.set_append_right _ _ (by simp [Rg.cells]; omega)]
      simp only [cells_len]
      rw [show (j + 1) * 5 - 5 = j * 5 by omega, show (j + 1) * 5 + 1 - 5 = j * 5 + 1 by omega, show (j + 1) * 5 + 2 - 5 = j * 5 + 2 by omega, show (j + 1) * 5 + 3 - 5 = j * 5 + 3 by omega]

theorem nil65 (a : Option Addr) (n c : Nat) (w : World) : (binOp .eql 65 (.slice a n c) (.slice none 0 0)).run Try.prog w = .ok (.bool a.isNone) w := Lib.run_eql_slice_nil w 65 69 a n c 0 0 Try.underlying65

theorem clone_none (w : World) : Calls Try.prog 30 #[.slice none 0 0] w fun e w' => e = .returned (.slice none 0 0) ∧ w = w' := by
  have hnil := nil65 none 0 0
  simp only [Option.isNone] at hnil
  go_enter Try.func30, Try.ntmps30
  go_wp2
  go_ret
  exact ⟨rfl, rfl⟩

theorem clone_some (ad : Addr) (n c : Nat) (rs : List Rg) (w : World) (hl : rs.length = n) (hn : n ≤ 60) (hc : ∀ j u, (flat rs)[j]? = some u → w.cell? (ad.add j) = some u) :
    Calls Try.prog 30 #[.slice (some ad) n c] w fun e w' => ∃ v, e = .returned v ∧ w'.ownsRow w.heap.size 69 5 v n (flat rs) ∧ Below w.heap.size w w' := by
  obtain ⟨i0, hi, hz0, hz1, hz2⟩ := info_parts Try.info69
  have HL := Lib.hid (show (flat rs).length = n * 5 by rw [flat_len, hl])
  have HC := Lib.hid (show ∀ j u, (flat rs)[j]? = some u → (w.alloc (Obj.cells #[] 69)).cell? (ad.add j) = some u from fun j u hu => Lib.cell?_alloc_some _ (hc j u hu))
  clear hc
  have hnil := nil65 (some ad) n c
  simp only [Option.isNone] at hnil
  go_enter Try.func30, Try.ntmps30
  go_wp2_with (at_builtin; refine wpList_append_own _ rfl _ _ 65 rfl w.heap.size 69 i0 _ 5 32 Try.underlying65 hi hz0 hz1 hz2 rfl (by decide) _ 0 [] rfl (World.ownsRow_lit w #[] 0 (Nat.le_refl _) (by unfold maxLen; omega) rfl) ad n c (flat rs) rfl HL.out HC.out (flat_cells_one rs) (by unfold maxLen; omega) (by omega) (by simp) ?_)
  intro v2 w2 own2 gr2 _
  have O2 := Lib.hid own2
  have B2 := Lib.hid (show Below w.heap.size w w2 from ((Below.refl _ _).alloc (Nat.le_refl _) _).grown gr2 (by simp) (fun k hk => by simp [Value.ownBlock] at hk; omega))
  clear own2 gr2
  go_wp2
  go_ret
  exact ⟨_, rfl, O2.out, B2.out⟩

theorem clone (a : Option Addr) (n c : Nat) (rs : List Rg) (w : World) (hn : n ≤ 60) (hno : a = none → n = 0 ∧ c = 0) (h : RowAt 69 w a n rs) :
    Calls Try.prog 30 #[.slice a n c] w fun e w' => ∃ v, e = .returned v ∧ w'.ownsRow w.heap.size 69 5 v n (flat rs) ∧ Below w.heap.size w w' := by
  cases a with
  | none =>
    obtain ⟨rfl, rfl⟩ := hno rfl
    have : rs = [] := List.eq_nil_of_length_eq_zero h.1
    subst this
    exact (clone_none w).mono fun e w' ⟨he, hw⟩ => ⟨_, he, by subst hw; exact World.ownsRow_nil _ _ _ _, by subst hw; exact Below.refl _ _⟩
  | some ad =>
    refine clone_some ad n c rs w h.1 hn fun j u hu => ?_
    rcases h.2 with h0 | ⟨b, off, e, _, hc⟩
    · have : rs = [] := List.eq_nil_of_length_eq_zero (by rw [h.1, h0])
      rw [this] at hu
      cases hu
    · cases e
      rw [Addr.add_lit]
      exact hc j u hu

theorem movedB (B : Nat) (V : World) (f t x d : Int) (l r : Bool) (a : Option Addr) (n c : Nat) (W : World) (hf : 0 ≤ f ∧ f ≤ t ∧ t ≤ 2147483648) (hx : 0 ≤ x ∧ 0 ≤ d ∧ x + d ≤ 2147483648) (hn : n ≤ 1000000) (h : Below B V W) (hB : B ≤ W.heap.size) :
    Calls Try.prog 26 #[.agg #[.int .i64 f, .int .i64 t, .bool l, .bool r], .agg #[.int .i64 x, .int .i64 d, .slice a n c]] W fun e w' => e = .returned (.agg #[.int .i64 (mf f x d n l), .int .i64 (mt f t x d n l r), .bool l, .bool r]) ∧ Below B V w' :=
  (moved f t x d l r a n c W hf hx hn).mono fun e w' ⟨he, o1, o2, o3, o4, o5, hw⟩ => ⟨he, by subst hw; exact (((((h.alloc hB _).alloc (by simp; omega) _).alloc (by simp; omega) _).alloc (by simp; omega) _).alloc (by simp; omega) _).drew⟩

theorem edit_bad (mb B last : Nat) (rs : List Rg) (x d : Int) (a : Option Addr) (n c : Nat) (w : World) (h : MarksAt w B mb rs last) (hB : B ≤ w.heap.size) (hx : fair x d = false) :
    Calls Try.prog 16 #[.pointer (some ⟨mb, 0, none⟩), .agg #[.int .i64 x, .int .i64 d, .slice a n c]] w (Changed w B mb rs last (.int .i64 1)) := by
  have V := validEdit x d a n c
  rw [hx] at V
  have HV := Lib.hid V
  have HM := Lib.hid h
  clear V hx h
  go_enter Try.func16, Try.ntmps16
  go_wp2_with fail
  (with_reducible refine (HV.out _).mono ?_)
  rintro e w1 ⟨rfl, rfl⟩
  go_wp2
  go_ret
  have b : Below w.heap.size w ((w.alloc (Obj.cells #[.int .i64 x, .int .i64 d, .slice a n c] 28)).alloc (Obj.cells #[.int .i64 x, .int .i64 d, .slice a n c] 28)) := ((Below.refl _ _).alloc (Nat.le_refl _) _).alloc (by simp) _
  exact ⟨rfl, HM.out.below b, Kept.of b, b.mono hB⟩

/-- Four cells of a row that the call owns, stored one behind the other. -/
theorem own_facts {w : World} {B g cap n : Nat} {xs : List Value} (h : w.ownsRow B 69 5 (.slice (some ⟨g, 0, none⟩) n cap) n xs) (k : Nat) (hk : k + 3 < n * 5) :
    (∃ u, w.cell? ⟨g, k, none⟩ = some u) ∧ w.frozen? ⟨g, k, none⟩ = false ∧
    (∃ u, ∀ v0, (w.setCell ⟨g, k, none⟩ v0).cell? ⟨g, k + 1, none⟩ = some u) ∧ (∀ v0, (w.setCell ⟨g, k, none⟩ v0).frozen? ⟨g, k + 1, none⟩ = false) ∧
    (∃ u, ∀ v0 v1, ((w.setCell ⟨g, k, none⟩ v0).setCell ⟨g, k + 1, none⟩ v1).cell? ⟨g, k + 2, none⟩ = some u) ∧ (∀ v0 v1, ((w.setCell ⟨g, k, none⟩ v0).setCell ⟨g, k + 1, none⟩ v1).frozen? ⟨g, k + 2, none⟩ = false) ∧
    (∃ u, ∀ v0 v1 v2, (((w.setCell ⟨g, k, none⟩ v0).setCell ⟨g, k + 1, none⟩ v1).setCell ⟨g, k + 2, none⟩ v2).cell? ⟨g, k + 3, none⟩ = some u) ∧ (∀ v0 v1 v2, (((w.setCell ⟨g, k, none⟩ v0).setCell ⟨g, k + 1, none⟩ v1).setCell ⟨g, k + 2, none⟩ v2).frozen? ⟨g, k + 3, none⟩ = false) := by
  have hl := h.1
  have s1 := fun v0 => (h.stored k v0).1
  have s2 := fun v0 v1 => ((s1 v0).stored (k + 1) v1).1
  have s3 := fun v0 v1 v2 => ((s2 v0 v1).stored (k + 2) v2).1
  refine ⟨⟨xs[k], ?_⟩, h.frozenAt k, ⟨xs[k + 1], fun v0 => ?_⟩, fun v0 => (s1 v0).frozenAt _, ⟨xs[k + 2], fun v0 v1 => ?_⟩, fun v0 v1 => (s2 v0 v1).frozenAt _, ⟨xs[k + 3], fun v0 v1 v2 => ?_⟩, fun v0 v1 v2 => (s3 v0 v1 v2).frozenAt _⟩
  · rw [h.cellAt k (by omega), List.getElem?_eq_getElem (by omega)]
  · rw [(s1 v0).cellAt (k + 1) (by omega), List.getElem?_set_ne (by omega), List.getElem?_eq_getElem (by omega)]
  · rw [(s2 v0 v1).cellAt (k + 2) (by omega), List.getElem?_set_ne (by omega), List.getElem?_set_ne (by omega), List.getElem?_eq_getElem (by omega)]
  · rw [(s3 v0 v1 v2).cellAt (k + 3) (by omega), List.getElem?_set_ne (by omega), List.getElem?_set_ne (by omega), List.getElem?_set_ne (by omega), List.getElem?_eq_getElem (by omega)]

def putAt (w : World) (g k : Nat) (v0 v1 v2 v3 : Value) : World := (((w.setCell ⟨g, k, none⟩ v0).setCell ⟨g, k + 1, none⟩ v1).setCell ⟨g, k + 2, none⟩ v2).setCell ⟨g, k + 3, none⟩ v3
theorem own_putAt {w : World} {B g cap n : Nat} {xs : List Value} (h : w.ownsRow B 69 5 (.slice (some ⟨g, 0, none⟩) n cap) n xs) (k : Nat) (v0 v1 v2 v3 : Value) :
    (putAt w g k v0 v1 v2 v3).ownsRow B 69 5 (.slice (some ⟨g, 0, none⟩) n cap) n ((((xs.set k v0).set (k + 1) v1).set (k + 2) v2).set (k + 3) v3) :=
  ((((h.stored k v0).1.stored (k + 1) v1).1.stored (k + 2) v2).1.stored (k + 3) v3).1
theorem putAt_below {w : World} {B g k : Nat} {v0 v1 v2 v3 : Value} (h : B ≤ g) : Below B w (putAt w g k v0 v1 v2 v3) :=
  ((((Below.refl _ _).setCell h _).setCell h _).setCell h _).setCell h _
/-- What Edit comes to. -/
def editR (x d : Int) (n : Nat) (rs : List Rg) : List Rg := if fits x d n rs = true then rs.map (mvR x d n) else rs
def editV (x d : Int) (n : Nat) (rs : List Rg) : Int := if fits x d n rs = true then 0 else 1

theorem edit_no {w w' : World} {B mb last : Nat} {rs : List Rg} {x d : Int} {n : Nat} (hf : fits x d n rs = false) (hM : MarksAt w' B mb rs last) (hb : Below w.heap.size w w') (hB : B ≤ w.heap.size) : Changed w B mb (editR x d n rs) last (.int .i64 (editV x d n rs)) (.returned (.int .i64 1)) w' := by
  have e1 : editR x d n rs = rs := by unfold editR; rw [hf]; rfl
  have e2 : editV x d n rs = 1 := by unfold editV; rw [hf]; rfl
  rw [e1, e2]
  exact ⟨rfl, hM, Kept.of hb, hb.mono hB⟩
theorem fits_take {x d : Int} {n : Nat} {rs : List Rg} {j : Nat} {y : Rg} (h : fits x d n (rs.take j) = true) (hy : rs[j]? = some y) (ho : ¬ 2147483648 < mt y.f y.t x d n y.l y.r) : fits x d n (rs.take (j + 1)) = true := by
  unfold fits at h ⊢
  rw [List.take_add_one, hy, List.all_append, h]
  simp
  omega

theorem fits_not {x d : Int} {n : Nat} {rs : List Rg} {j : Nat} {y : Rg} (h : rs[j]? = some y) (hy : 2147483648 < mt y.f y.t x d n y.l y.r) : fits x d n rs = false := by
  unfold fits
  rw [List.all_eq_false]
  exact ⟨y, List.mem_of_getElem? h, by simp; omega⟩

theorem marks_moved {w : World} {B mb last : Nat} {rs : List Rg} {x d : Int} {n : Nat} {v v2 : Value} (hR : w.rowIs mb 67 2 (mk2 v last)) (hO : w.ownsRow B 69 5 v2 rs.length (flat (rs.map (mvR x d n)))) (h60 : rs.length ≤ 60) (hg : ∀ y ∈ rs, y.good last) (hs : rs.Pairwise (fun x y => x.i < y.i)) (hx : 0 ≤ x ∧ 0 ≤ d ∧ x + d ≤ 2147483648) (hf : fits x d n rs = true) :
    MarksAt (w.setCell ⟨mb, 0, none⟩ v2) B mb (rs.map (mvR x d n)) last := by
  refine ⟨⟨v2, (hR.set 0 v2).congr fun i hi => ?_, ?_⟩, by simp; omega, ?_, ?_⟩
  · match i, hi with
    | 0, _ => rfl
    | 1, _ => rfl
  · rw [List.length_map]
    exact own_setMb (i := 0) hO hR (by decide) v2
  · intro y hy
    obtain ⟨z, hz, rfl⟩ := List.mem_map.1 hy
    have g := hg z hz
    have hb := pl_bounds (h := !z.l) (n := n) (p := z.f) (x := x) (d := d) ⟨g.1, by have := g.2.1; have := g.2.2.1; omega⟩ hx
    unfold fits at hf
    have := of_decide_eq_true (List.all_eq_true.1 hf z hz)
    refine ⟨hb.1, ?_, this, g.2.2.2.1, g.2.2.2.2⟩
    show mf _ _ _ _ _ ≤ mt _ _ _ _ _ _ _
    unfold mt
    split <;> omega
  · rw [List.pairwise_map]
    exact hs

theorem edit_step {w : World} {B g cap k : Nat} {rs : List Rg} {x d : Int} {n j : Nat} {y : Rg} (h : w.ownsRow B 69 5 (.slice (some ⟨g, 0, none⟩) k cap) k (flat (part x d n rs j))) (hy : rs[j]? = some y) :
    (putAt w g (j * 5) (.int .i64 (mf y.f x d n y.l)) (.int .i64 (mt y.f y.t x d n y.l y.r)) (.bool y.l) (.bool y.r)).ownsRow B 69 5 (.slice (some ⟨g, 0, none⟩) k cap) k (flat (part x d n rs (j + 1))) ∧
    (putAt w g (j * 5) (.int .i64 (mf y.f x d n y.l)) (.int .i64 (mt y.f y.t x d n y.l y.r)) (.bool y.l) (.bool y.r)).cell? ⟨g, j * 5 + 1, none⟩ = some (.int .i64 (mt y.f y.t x d n y.l y.r)) := by
  have h1 := own_putAt h (j * 5) (.int .i64 (mf y.f x d n y.l)) (.int .i64 (mt y.f y.t x d n y.l y.r)) (.bool y.l) (.bool y.r)
  have e := flat_set (part x d n rs j) j y (mvR x d n y) (part_at x d n rs j y hy) rfl
  simp only [mvR] at e
  rw [← e] at h1
  have e2 := part_next x d n rs j y hy
  simp only [mvR] at e2
  rw [e2] at h1
  refine ⟨h1, ?_⟩
  have hj : (part x d n rs (j + 1))[j]? = some (mvR x d n y) := by
    rw [← part_next x d n rs j y hy, List.getElem?_set_self (by rw [part_len]; exact (List.getElem?_eq_some_iff.1 hy).1)]
  have := (rgCells (off := 0) (b := g) (fun i u hu => by
    have := h1.cells (g := g) rfl i u hu
    rwa [Addr.add_lit] at this) j _ hj).2.1
  simpa [mvR] using this

set_option maxHeartbeats 4000000 in
theorem edit_good (mb B last : Nat) (rs : List Rg) (x d : Int) (a : Option Addr) (n c : Nat) (w : World) (h : MarksAt w B mb rs last) (hB : B ≤ mb) (hx : fair x d = true) (hn : n ≤ 1000000) :
    Calls Try.prog 16 #[.pointer (some ⟨mb, 0, none⟩), .agg #[.int .i64 x, .int .i64 d, .slice a n c]] w (Changed w B mb (editR x d n rs) last (.int .i64 (editV x d n rs))) := by
  have V := validEdit x d a n c
  rw [hx] at V
  have HV := Lib.hid V
  have HX := of_decide_eq_true hx
  have HM := Lib.hid h
  have b0 : Below w.heap.size w ((w.alloc (Obj.cells #[.int .i64 x, .int .i64 d, .slice a n c] 28)).alloc (Obj.cells #[.int .i64 x, .int .i64 d, .slice a n c] 28)) := ((Below.refl _ _).alloc (Nat.le_refl _) _).alloc (by simp) _
  have M1 := Lib.hid (h.below b0)
  have B0 := Lib.hid b0
  obtain ⟨ar, cr, h1, hO, hc, hno, hR⟩ := M1.out.opened
  have hmb := h.lt
  have m0 : ((w.alloc (Obj.cells #[.int .i64 x, .int .i64 d, .slice a n c] 28)).alloc (Obj.cells #[.int .i64 x, .int .i64 d, .slice a n c] 28)).cell? ⟨mb, 0, none⟩ = some (.slice ar rs.length cr) := h1.cell (i := 0) (by omega)
  have HL := Lib.hid h.len
  have CL := Lib.hid (clone ar rs.length cr rs _ h.len hno hR)
  have e0 : ((w.alloc (Obj.cells #[.int .i64 x, .int .i64 d, .slice a n c] 28)).alloc (Obj.cells #[.int .i64 x, .int .i64 d, .slice a n c] 28)).cell? ⟨w.heap.size, 0, none⟩ = some (.int .i64 x) := by go_simp
  have e1 : ((w.alloc (Obj.cells #[.int .i64 x, .int .i64 d, .slice a n c] 28)).alloc (Obj.cells #[.int .i64 x, .int .i64 d, .slice a n c] 28)).cell? ⟨w.heap.size, 1, none⟩ = some (.int .i64 d) := by go_simp
  have e2 : ((w.alloc (Obj.cells #[.int .i64 x, .int .i64 d, .slice a n c] 28)).alloc (Obj.cells #[.int .i64 x, .int .i64 d, .slice a n c] 28)).cell? ⟨w.heap.size, 2, none⟩ = some (.slice a n c) := by go_simp
  have hs0 : w.heap.size < ((w.alloc (Obj.cells #[.int .i64 x, .int .i64 d, .slice a n c] 28)).alloc (Obj.cells #[.int .i64 x, .int .i64 d, .slice a n c] 28)).heap.size := by simp; omega
  obtain ⟨k, hk⟩ : ∃ k, k = rs.length := ⟨_, rfl⟩
  have HK := Lib.hid hk
  have hk60 := h.len
  rw [← hk] at m0 CL hk60
  clear V hx h b0 h1 hO hc hno hR hk
  go_enter Try.func16, Try.ntmps16
  go_wp2_with fail
  (with_reducible refine (HV.out _).mono ?_)
  rintro e w1 ⟨rfl, hw⟩
  rw [← hw] at M1 B0 m0 CL e0 e1 e2 hs0
  clear hw
  go_wp2_with fail
  (with_reducible refine CL.out.mono ?_)
  rintro e w2 ⟨v, rfl, o2, b2⟩
  obtain ⟨a2, c2, rfl⟩ := own_form2 o2
  have E0 := Lib.hid e0
  have E1 := Lib.hid e1
  have E2 := Lib.hid e2
  have B2 := Lib.hid b2
  have O2 := Lib.hid o2
  have hs2 : w.heap.size < w2.heap.size := Nat.lt_of_lt_of_le hs0 b2.size
  clear m0 e0 e1 e2 b2 o2
  go_wp2_with fail
  go_loopw [21] (fun i wr => ∃ j : Nat, j ≤ k ∧ i = .int .i64 j ∧ fits x d n (rs.take j) = true ∧ wr.ownsRow w1.heap.size 69 5 (.slice a2 k c2) k (flat (part x d n rs j)) ∧ Below w1.heap.size w1 wr) (fun i _ => k - (intOf i).toNat)
  case atStart => exact ⟨0, Nat.zero_le _, rfl, rfl, by rw [part_zero]; exact O2.out, B2.out⟩
  case round =>
    obtain ⟨j, hj, rfl, hft, hown, hbel⟩ := hrel
    have FT := Lib.hid hft
    have OR := Lib.hid hown
    have BR := Lib.hid hbel
    have hwz := hbel.size
    clear hft
    by_cases hjk : j < k
    · obtain ⟨y, hy⟩ : ∃ y, rs[j]? = some y := ⟨rs[j]'(by have := HK.out; omega), by simp⟩
      have gy := HM.out.good y (List.mem_of_getElem? hy)
      have Y := Lib.hid hy
      have hjz : (j : Int) < (k : Int) := by omega
      have hj0 : (0 : Int) ≤ (j : Int) := by omega
      rcases hown.2 with ⟨_, h0⟩ | ⟨g, cap, cur, e, hg, hgg, _⟩
      · omega
      cases e
      obtain ⟨r0, r1, r2, r3, r4⟩ := rgCells (off := 0) (w := wr) (b := g) (rs := part x d n rs j) (fun i u hu => by
        have := OR.out.cells (g := g) rfl i u hu
        rwa [Addr.add_lit] at this) j y (part_at x d n rs j y hy)
      simp only [Nat.zero_add] at r0 r1 r2 r3 r4
      have p0 := (hbel.cell (p := ⟨w.heap.size, 0, none⟩) (by exact hs0)).trans E0.out
      have p1 := (hbel.cell (p := ⟨w.heap.size, 1, none⟩) (by exact hs0)).trans E1.out
      have p2 := (hbel.cell (p := ⟨w.heap.size, 2, none⟩) (by exact hs0)).trans E2.out
      have MV := Lib.hid (fun V' h' hB' => movedB wr.heap.size wr y.f y.t x d y.l y.r a n c V' ⟨gy.1, gy.2.1, gy.2.2.1⟩ HX hn h' hB')
      have hglt : g < wr.heap.size := lt_of_block hgg
      obtain ⟨f, t, l, r, i⟩ := y
      simp only at r0 r1 r2 r3 r4 MV gy
      clear r4 hown hbel hy hgg
      go_wp2_with fail
      go_region_with (first
        | (go_at_call 26; (with_reducible refine (MV.out _ (Below.refl _ _).drew (Nat.le_refl _)).mono ?_); rintro e w3 ⟨rfl, b3⟩; have O3 := Lib.hid (own_below OR.out b3); have B3 := Lib.hid b3; obtain ⟨⟨u0, f0⟩, f1, ⟨u1, f2⟩, f3, ⟨u2, f4⟩, f5, ⟨u3, f6⟩, f7⟩ := own_facts O3.out (j * 5) (by omega); clear b3))
      all_goals
        obtain ⟨s1, s2⟩ := edit_step O3.out Y.out
        simp only at s1 s2
        have O4 := Lib.hid s1
        have B4 := Lib.hid (show Below w1.heap.size w1 (putAt w3 g (j * 5) (.int .i64 (mf f x d n l)) (.int .i64 (mt f t x d n l r)) (.bool l) (.bool r)) from (BR.out.trans (B3.out.mono hwz)).trans (putAt_below hg))
        have FN := Lib.hid (fun h => fits_not (x := x) (d := d) (n := n) Y.out h)
        have FY := Lib.hid (fun h => fits_take (x := x) (d := d) (n := n) FT.out Y.out h)
        simp only at FN FY
        unfold putAt at s2
        generalize mf f x d n l = F at *
        generalize mt f t x d n l r = T at *
        clear s1 r0 r1 r2 r3 p0 p1 p2
        by_cases hbig : 2147483648 < T
        · have FIN := Lib.hid (edit_no (w := w) (FN.out hbig) (M1.out.below B4.out) (B0.out.trans (B4.out.mono (by omega))) (by omega))
          go_wp2
          go_ret
          exact FIN.out
        · have FT2 := Lib.hid (FY.out hbig)
          go_wp2
          go_roundw
          case rel => exact ⟨j + 1, by omega, by go_num, FT2.out, O4.out, B4.out⟩
          case measure => simp [intOf]; omega
    · have hjz : ¬ (j : Int) < (k : Int) := by omega
      have e : part x d n rs j = rs.map (mvR x d n) := part_all x d n rs j (by have := HK.out; omega)
      have ef : fits x d n rs = true := by
        have h := FT.out
        rwa [List.take_of_length_le (by have := HK.out; omega)] at h
      rw [e] at hown
      obtain ⟨a3, c3, q1, _, _, _, _⟩ := (M1.out.below hbel).opened
      have z0 := q1.cell (i := 0) (by omega)
      have z1 := q1.frozen 0
      have MM := Lib.hid (marks_moved (v2 := .slice a2 k c2) q1 (by rw [← HK.out]; exact own_mono (B' := B) hown (by omega)) HM.out.len HM.out.good HM.out.sorted HX ef)
      have FIN := Lib.hid (show Changed w B mb (editR x d n rs) last (.int .i64 (editV x d n rs)) (.returned (.int .i64 0)) (wr.setCell ⟨mb, 0, none⟩ (.slice a2 k c2)) by
        have e1 : editR x d n rs = rs.map (mvR x d n) := by unfold editR; rw [ef]; rfl
        have e2 : editV x d n rs = 0 := by unfold editV; rw [ef]; rfl
        rw [e1, e2]
        have hb : Below w.heap.size w wr := B0.out.trans (hbel.mono (by omega))
        exact ⟨rfl, MM.out, (Kept.of hb).trans (Kept.setMb wr 0 _), (hb.mono (by omega)).setCell hB _⟩)
      clear hown hbel q1 e ef
      go_wp2
      go_ret
      exact FIN.out
end Go.Proofs.Ytlihgcpiokaehaa
