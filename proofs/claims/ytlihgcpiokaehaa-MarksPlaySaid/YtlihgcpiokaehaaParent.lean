/- The contract of Parent. Conditions: the marks lie in memory. -/
import Derived.Test.YtlihgcpiokaehaaClose
namespace Go.Proofs.Ytlihgcpiokaehaa
open Go Go.RowKit

def zero5 : Rg := ⟨0, 0, false, false, 0⟩
/-- The nearer one of two, as a parent of x. -/
def step (x p y : Rg) : Rg := if inB x y = true ∧ (p.i = 0 ∨ nearB y p = true) then y else p
/-- The parent of x, or zeros. -/
def parR (x : Rg) (rs : List Rg) : Rg := rs.foldl (step x) zero5

theorem parR_snoc (x : Rg) (rs : List Rg) (j : Nat) (z : Rg) (h : rs[j]? = some z) : parR x (rs.take (j + 1)) = step x (parR x (rs.take j)) z := by
  unfold parR
  rw [List.take_add_one, h, List.foldl_append]
  rfl
theorem parR_in (x : Rg) (rs : List Rg) : parR x rs = zero5 ∨ (parR x rs ∈ rs ∧ inB x (parR x rs) = true) := by
  unfold parR
  have : ∀ (l : List Rg) (p : Rg), (∀ y ∈ l, y ∈ rs) → (p = zero5 ∨ (p ∈ rs ∧ inB x p = true)) → (l.foldl (step x) p = zero5 ∨ (l.foldl (step x) p ∈ rs ∧ inB x (l.foldl (step x) p) = true)) := by
    intro l
    induction l with
    | nil => intro p _ h; exact h
    | cons y r ih =>
      intro p hl hp
      rw [List.foldl_cons]
      refine ih _ (fun z hz => hl z (List.mem_cons_of_mem _ hz)) ?_
      unfold step
      split
      · rename_i hc
        exact .inr ⟨hl y (List.mem_cons_self ..), hc.1⟩
      · exact hp
  exact this rs zero5 (fun _ h => h) (.inl rfl)

def nd5 (x : Rg) : Nat → Value := fun i => if i = 0 then .int .i64 x.f else if i = 1 then .int .i64 x.t else if i = 2 then .bool x.l else if i = 3 then .bool x.r else .int .i64 x.i
theorem row5 (w : World) (x : Rg) (t : TypeId) : (w.alloc (Obj.cells #[.int .i64 x.f, .int .i64 x.t, .bool x.l, .bool x.r, .int .i64 x.i] t)).rowIs w.heap.size t 5 (nd5 x) :=
  World.rowIs_alloc w #[.int .i64 x.f, .int .i64 x.t, .bool x.l, .bool x.r, .int .i64 x.i] t _ (by intro i hi; match i, hi with | 0, _ => rfl | 1, _ => rfl | 2, _ => rfl | 3, _ => rfl | 4, _ => rfl)
theorem row5_facts {w : World} {b t : Nat} {f : Nat → Value} (h : w.rowIs b t 5 f) :
    w.frozen? ⟨b, 0, none⟩ = false ∧
    (∀ v0, (w.setCell ⟨b, 0, none⟩ v0).cell? ⟨b, 1, none⟩ = some (f 1)) ∧ (∀ v0, (w.setCell ⟨b, 0, none⟩ v0).frozen? ⟨b, 1, none⟩ = false) ∧
    (∀ v0 v1, ((w.setCell ⟨b, 0, none⟩ v0).setCell ⟨b, 1, none⟩ v1).cell? ⟨b, 2, none⟩ = some (f 2)) ∧ (∀ v0 v1, ((w.setCell ⟨b, 0, none⟩ v0).setCell ⟨b, 1, none⟩ v1).frozen? ⟨b, 2, none⟩ = false) ∧
    (∀ v0 v1 v2, (((w.setCell ⟨b, 0, none⟩ v0).setCell ⟨b, 1, none⟩ v1).setCell ⟨b, 2, none⟩ v2).cell? ⟨b, 3, none⟩ = some (f 3)) ∧ (∀ v0 v1 v2, (((w.setCell ⟨b, 0, none⟩ v0).setCell ⟨b, 1, none⟩ v1).setCell ⟨b, 2, none⟩ v2).frozen? ⟨b, 3, none⟩ = false) ∧
    (∀ v0 v1 v2 v3, ((((w.setCell ⟨b, 0, none⟩ v0).setCell ⟨b, 1, none⟩ v1).setCell ⟨b, 2, none⟩ v2).setCell ⟨b, 3, none⟩ v3).cell? ⟨b, 4, none⟩ = some (f 4)) ∧ (∀ v0 v1 v2 v3, ((((w.setCell ⟨b, 0, none⟩ v0).setCell ⟨b, 1, none⟩ v1).setCell ⟨b, 2, none⟩ v2).setCell ⟨b, 3, none⟩ v3).frozen? ⟨b, 4, none⟩ = false) :=
  ⟨h.frozen 0, fun v0 => (h.set 0 v0).cell (by omega), fun v0 => (h.set 0 v0).frozen 1, fun v0 v1 => ((h.set 0 v0).set 1 v1).cell (by omega), fun v0 v1 => ((h.set 0 v0).set 1 v1).frozen 2, fun v0 v1 v2 => (((h.set 0 v0).set 1 v1).set 2 v2).cell (by omega), fun v0 v1 v2 => (((h.set 0 v0).set 1 v1).set 2 v2).frozen 3, fun v0 v1 v2 v3 => ((((h.set 0 v0).set 1 v1).set 2 v2).set 3 v3).cell (by omega), fun v0 v1 v2 v3 => ((((h.set 0 v0).set 1 v1).set 2 v2).set 3 v3).frozen 4⟩
def put5 (w : World) (b : Nat) (x : Rg) : World := ((((w.setCell ⟨b, 0, none⟩ (.int .i64 x.f)).setCell ⟨b, 1, none⟩ (.int .i64 x.t)).setCell ⟨b, 2, none⟩ (.bool x.l)).setCell ⟨b, 3, none⟩ (.bool x.r)).setCell ⟨b, 4, none⟩ (.int .i64 x.i)
theorem row5_put {w : World} {b t : Nat} {f : Nat → Value} (h : w.rowIs b t 5 f) (x : Rg) : (put5 w b x).rowIs b t 5 (nd5 x) := by
  refine (((((h.set 0 _).set 1 _).set 2 _).set 3 _).set 4 _).congr fun i hi => ?_
  match i, hi with
  | 0, _ => rfl
  | 1, _ => rfl
  | 2, _ => rfl
  | 3, _ => rfl
  | 4, _ => rfl
theorem put5_below {w : World} {b B : Nat} (x : Rg) (h : B ≤ b) : Below B w (put5 w b x) :=
  (((((Below.refl _ _).setCell h _).setCell h _).setCell h _).setCell h _).setCell h _
theorem row5_cells {w : World} {b t : Nat} {x : Rg} (h : w.rowIs b t 5 (nd5 x)) : w.cell? ⟨b, 0, none⟩ = some (.int .i64 x.f) ∧ w.cell? ⟨b, 1, none⟩ = some (.int .i64 x.t) ∧ w.cell? ⟨b, 2, none⟩ = some (.bool x.l) ∧ w.cell? ⟨b, 3, none⟩ = some (.bool x.r) ∧ w.cell? ⟨b, 4, none⟩ = some (.int .i64 x.i) :=
  ⟨h.cell (i := 0) (by omega), h.cell (i := 1) (by omega), h.cell (i := 2) (by omega), h.cell (i := 3) (by omega), h.cell (i := 4) (by omega)⟩
theorem cells5_at {w w' : World} {b o : Nat} {B : Nat} {v0 v1 v2 v3 v4 : Value} (h : Below B w w') (hb : b < B) (h0 : w.cell? ⟨b, o, none⟩ = some v0) (h1 : w.cell? ⟨b, o + 1, none⟩ = some v1) (h2 : w.cell? ⟨b, o + 2, none⟩ = some v2) (h3 : w.cell? ⟨b, o + 3, none⟩ = some v3) (h4 : w.cell? ⟨b, o + 4, none⟩ = some v4) :
    w'.cell? ⟨b, o, none⟩ = some v0 ∧ w'.cell? ⟨b, o + 1, none⟩ = some v1 ∧ w'.cell? ⟨b, o + 2, none⟩ = some v2 ∧ w'.cell? ⟨b, o + 3, none⟩ = some v3 ∧ w'.cell? ⟨b, o + 4, none⟩ = some v4 :=
  ⟨(h.cell (by exact hb)).trans h0, (h.cell (by exact hb)).trans h1, (h.cell (by exact hb)).trans h2, (h.cell (by exact hb)).trans h3, (h.cell (by exact hb)).trans h4⟩

theorem parent_no (mb B last : Nat) (rs : List Rg) (x : Int) (w : World) (h : MarksAt w B mb rs last) (hx : idz x rs = -1) :
    Calls Try.prog 21 #[.pointer (some ⟨mb, 0, none⟩), .int .i64 x] w fun e w' => e = .returned (.tuple #[.int .i64 0, .int .i64 4]) ∧ Below w.heap.size w w' := by
  have I := index mb B last rs x w h
  rw [hx] at I
  have HI := Lib.hid I
  clear I h hx
  go_enter Try.func21, Try.ntmps21
  go_wp2_with fail
  (with_reducible refine HI.out.mono ?_)
  rintro e w1 ⟨rfl, b⟩
  have B := Lib.hid b
  clear b
  go_wp2
  go_ret2
  exact ⟨rfl, B.out⟩

theorem innB (B : Nat) (V : World) (x y : Rg) (W : World) (h : Below B V W) (hB : B ≤ W.heap.size) :
    Calls Try.prog 34 #[.agg #[.int .i64 x.f, .int .i64 x.t, .bool x.l, .bool x.r, .int .i64 x.i], .agg #[.int .i64 y.f, .int .i64 y.t, .bool y.l, .bool y.r, .int .i64 y.i]] W fun e w' => e = .returned (.bool (inB x y)) ∧ Below B V w' :=
  (inn x.f x.t x.l x.r x.i y.f y.t y.l y.r y.i W).mono fun _ _ ⟨he, hw⟩ => ⟨he, h.trans (hw.mono hB)⟩
theorem nearBelow (B : Nat) (V : World) (x y : Rg) (hx : 0 ≤ x.f ∧ x.f ≤ x.t ∧ x.t ≤ 2147483648) (hy : 0 ≤ y.f ∧ y.f ≤ y.t ∧ y.t ≤ 2147483648) (W : World) (h : Below B V W) (hB : B ≤ W.heap.size) :
    Calls Try.prog 35 #[.agg #[.int .i64 x.f, .int .i64 x.t, .bool x.l, .bool x.r, .int .i64 x.i], .agg #[.int .i64 y.f, .int .i64 y.t, .bool y.l, .bool y.r, .int .i64 y.i]] W fun e w' => e = .returned (.bool (nearB x y)) ∧ Below B V w' :=
  (closer x.f x.t x.l x.r x.i y.f y.t y.l y.r y.i W hx hy).mono fun _ _ ⟨he, hw⟩ => ⟨he, h.trans (hw.mono hB)⟩

set_option maxHeartbeats 4000000 in
theorem parent_yes (mb B last : Nat) (rs : List Rg) (x : Int) (k : Nat) (y : Rg) (w : World) (h : MarksAt w B mb rs last) (hx : idz x rs = k) (hy : rs[k]? = some y) :
    Calls Try.prog 21 #[.pointer (some ⟨mb, 0, none⟩), .int .i64 x] w fun e w' => e = .returned (.tuple #[.int .i64 (parR y rs).i, .int .i64 0]) ∧ Below w.heap.size w w' := by
  have I := index mb B last rs x w h
  rw [hx] at I
  have HI := Lib.hid I
  have HM := Lib.hid h
  have HY := Lib.hid hy
  have hk : k < rs.length := (List.getElem?_eq_some_iff.1 hy).1
  have hk60 := h.len
  clear I h hx hy
  go_enter Try.func21, Try.ntmps21
  go_wp2_with fail
  (with_reducible refine HI.out.mono ?_)
  rintro e w1 ⟨rfl, b1⟩
  have M1 := Lib.hid (HM.out.below b1)
  have B1 := Lib.hid b1
  obtain ⟨a, c, h1, _, h3, h4, hR⟩ := M1.out.opened
  rcases hR.2 with h0 | ⟨g, off, rfl, ⟨cur, fr, hh⟩, hc⟩
  · omega
  have hg := lt_of_block hh
  have hmb := M1.out.lt
  have hs1 := b1.size
  have m0 : w1.cell? ⟨mb, 0, none⟩ = some (.slice (some ⟨g, off, none⟩) rs.length c) := h1.cell (i := 0) (by omega)
  have m0' : (w1.alloc (Obj.cells #[.int .i64 0, .int .i64 0, .bool false, .bool false, .int .i64 0] 69)).cell? ⟨mb, 0, none⟩ = some (.slice (some ⟨g, off, none⟩) rs.length c) := Lib.cell?_alloc_some _ m0
  have HC := Lib.hid hc
  have HL := Lib.hid (show rs.length = rs.length from rfl)
  have HG := Lib.hid M1.out.good
  obtain ⟨n, hn⟩ : ∃ n, n = rs.length := ⟨_, rfl⟩
  rw [← hn] at hk hk60 m0 m0' h3 h4
  have HN := Lib.hid hn
  clear hc hR h1 h3 h4 hh b1 hn
  go_wp2_with fail
  go_loopw [20] (fun i wr => ∃ j : Nat, j ≤ n ∧ i = .int .i64 j ∧ wr.rowIs w1.heap.size 69 5 (nd5 (parR y (rs.take j))) ∧ Below w1.heap.size w1 wr) (fun i _ => n - (intOf i).toNat)
  case atStart => exact ⟨0, Nat.zero_le _, rfl, row5 w1 zero5 69, (Below.refl _ _).alloc (Nat.le_refl _) _⟩
  case round =>
    obtain ⟨j, hj, rfl, hP, hbel⟩ := hrel
    have RP := Lib.hid hP
    have BB := Lib.hid hbel
    have hwz := hbel.size
    have hPlt := hP.lt
    by_cases hjn : j < n
    · obtain ⟨z, hz⟩ : ∃ z, rs[j]? = some z := ⟨rs[j]'(by have := HN.out; omega), by simp⟩
      have hjz : (j : Int) < (n : Int) := by omega
      have hkz : (k : Int) < (n : Int) := by omega
      have gz := HG.out z (List.mem_of_getElem? hz)
      have gp : 0 ≤ (parR y (rs.take j)).f ∧ (parR y (rs.take j)).f ≤ (parR y (rs.take j)).t ∧ (parR y (rs.take j)).t ≤ 2147483648 := by
        rcases parR_in y (rs.take j) with e | ⟨e, _⟩
        · rw [e]; exact ⟨by decide, by decide, by decide⟩
        · have := HG.out _ (List.mem_of_mem_take e)
          exact ⟨this.1, this.2.1, this.2.2.1⟩
      have E := Lib.hid (parR_snoc y rs j z hz)
      obtain ⟨c0, c1, c2, c3, c4⟩ := rgCells HC.out j z hz
      obtain ⟨d0, d1, d2, d3, d4⟩ := rgCells HC.out k y HY.out
      obtain ⟨e0, e1, e2, e3, e4⟩ := cells5_at hbel hg c0 c1 c2 c3 c4
      obtain ⟨p, hp⟩ : ∃ p, p = parR y (rs.take j) := ⟨_, rfl⟩
      rw [← hp] at gp hP
      obtain ⟨q0, q1, q2, q3, q4⟩ := row5_cells hP
      have RQ := Lib.hid hP
      have HP := Lib.hid hp
      have mm := (hbel.cell (by exact hmb)).trans m0
      obtain ⟨s0, s1, s2, s3, s4⟩ := cells5_at hbel hg d0 d1 d2 d3 d4
      have INB := Lib.hid (fun W h hB => innB (wr.alloc (Obj.cells #[.int .i64 z.f, .int .i64 z.t, .bool z.l, .bool z.r, .int .i64 z.i] 69)).heap.size (wr.alloc (Obj.cells #[.int .i64 z.f, .int .i64 z.t, .bool z.l, .bool z.r, .int .i64 z.i] 69)) y z W h hB)
      have NEB := Lib.hid (fun W h hB => nearBelow (wr.alloc (Obj.cells #[.int .i64 z.f, .int .i64 z.t, .bool z.l, .bool z.r, .int .i64 z.i] 69)).heap.size (wr.alloc (Obj.cells #[.int .i64 z.f, .int .i64 z.t, .bool z.l, .bool z.r, .int .i64 z.i] 69)) z p ⟨gz.1, gz.2.1, gz.2.2.1⟩ gp W h hB)
      have ST := Lib.hid (show step y p z = if inB y z = true ∧ (p.i = 0 ∨ nearB z p = true) then z else p from rfl)
      have BV := Lib.hid (show Below w1.heap.size w1 (wr.alloc (Obj.cells #[.int .i64 z.f, .int .i64 z.t, .bool z.l, .bool z.r, .int .i64 z.i] 69)) from hbel.alloc hwz _)
      have KS := Lib.hid (fun (W : World) (h : Below (wr.alloc (Obj.cells #[.int .i64 z.f, .int .i64 z.t, .bool z.l, .bool z.r, .int .i64 z.i] 69)).heap.size (wr.alloc (Obj.cells #[.int .i64 z.f, .int .i64 z.t, .bool z.l, .bool z.r, .int .i64 z.i] 69)) W) => by
        obtain ⟨x0, x1, x2, x3, x4⟩ := cells5_at (o := off + k * 5) h (by simp; omega) (Lib.cell?_alloc_some _ s0) (Lib.cell?_alloc_some _ s1) (Lib.cell?_alloc_some _ s2) (Lib.cell?_alloc_some _ s3) (Lib.cell?_alloc_some _ s4)
        obtain ⟨x5, x6, x7, x8, x9⟩ := row5_cells ((row5 wr z 69).of_block (h.block _ (row5 wr z 69).lt))
        obtain ⟨x10, x11, x12, x13, x14⟩ := row5_cells ((hP.alloc (Obj.cells #[.int .i64 z.f, .int .i64 z.t, .bool z.l, .bool z.r, .int .i64 z.i] 69)).of_block (h.block _ (hP.alloc _).lt))
        exact And.intro h (And.intro ((h.cell (p := ⟨mb, 0, none⟩) (by simp; omega)).trans (Lib.cell?_alloc_some _ mm)) (And.intro x0 (And.intro x1 (And.intro x2 (And.intro x3 (And.intro x4 (And.intro x5 (And.intro x6 (And.intro x7 (And.intro x8 (And.intro x9 (And.intro x10 (And.intro x11 (And.intro x12 (And.intro x13 x14))))))))))))))))
      have RV := Lib.hid (hP.alloc (Obj.cells #[.int .i64 z.f, .int .i64 z.t, .bool z.l, .bool z.r, .int .i64 z.i] 69))
      obtain ⟨yf, yt, yl, yr, yi⟩ := y
      obtain ⟨zf, zt, zl, zr', zi⟩ := z
      obtain ⟨pf, pt, pl', pr, pi⟩ := p
      simp only at KS RV e0 e1 e2 e3 e4 BV INB NEB q0 q1 q2 q3 q4
      clear c0 c1 c2 c3 c4 d0 d1 d2 d3 d4 s0 s1 s2 s3 s4 hz hP hp hbel gp gz
      go_wp2_with fail
      obtain ⟨V, hV⟩ : ∃ V, V = (wr.alloc (Obj.cells #[.int .i64 zf, .int .i64 zt, .bool zl, .bool zr', .int .i64 zi] 69)) := ⟨_, rfl⟩
      rw [← hV] at KS INB NEB BV RV
      rw [← hV]
      have hPV : w1.heap.size < V.heap.size := RV.out.lt
      clear hV
      cases hin : inB ⟨yf, yt, yl, yr, yi⟩ ⟨zf, zt, zl, zr', zi⟩ with
      | false =>
        have ST2 := Lib.hid (show step ⟨yf, yt, yl, yr, yi⟩ ⟨pf, pt, pl', pr, pi⟩ ⟨zf, zt, zl, zr', zi⟩ = ⟨pf, pt, pl', pr, pi⟩ by rw [ST.out, hin, if_neg (by simp)])
        have A := INB.out
        rw [hin] at A
        have INX := Lib.hid A
        clear A hin
        refine wp_region_noPanic ?_
        refine wp_region_held_drew (S := (fun W => Below V.heap.size V W ∧ W.cell? ⟨mb, 0, none⟩ = some (.slice (some ⟨g, off, none⟩) n c) ∧ W.cell? ⟨g, off + k * 5, none⟩ = some (.int .i64 yf) ∧ W.cell? ⟨g, off + k * 5 + 1, none⟩ = some (.int .i64 yt) ∧ W.cell? ⟨g, off + k * 5 + 2, none⟩ = some (.bool yl) ∧ W.cell? ⟨g, off + k * 5 + 3, none⟩ = some (.bool yr) ∧ W.cell? ⟨g, off + k * 5 + 4, none⟩ = some (.int .i64 yi) ∧ W.cell? ⟨wr.heap.size, 0, none⟩ = some (.int .i64 zf) ∧ W.cell? ⟨wr.heap.size, 1, none⟩ = some (.int .i64 zt) ∧ W.cell? ⟨wr.heap.size, 2, none⟩ = some (.bool zl) ∧ W.cell? ⟨wr.heap.size, 3, none⟩ = some (.bool zr') ∧ W.cell? ⟨wr.heap.size, 4, none⟩ = some (.int .i64 zi) ∧ W.cell? ⟨w1.heap.size, 0, none⟩ = some (.int .i64 pf) ∧ W.cell? ⟨w1.heap.size, 1, none⟩ = some (.int .i64 pt) ∧ W.cell? ⟨w1.heap.size, 2, none⟩ = some (.bool pl') ∧ W.cell? ⟨w1.heap.size, 3, none⟩ = some (.bool pr) ∧ W.cell? ⟨w1.heap.size, 4, none⟩ = some (.int .i64 pi))) (by kernel_rfl) ?_ (fun hHeld => ?_)
        · (first | exact KS.out _ (Below.refl _ _).drew | exact KS.out _ (by assumption) | assumption)
        refine wpAnyH_take (i := 0) (oi := { dst := some 24, op := Op.move (Operand.tmp 0), type := 41, pos := "marks.go:98", after := #[], guard := none }) (v := ?_) rfl (by kernel_rfl) (by kernel_rfl) (by kernel_rfl) (fun _ _ _ h => h) (Or.inl ⟨by rfl, ?_⟩) (by assumption) ?_
        rotate_left
        · (intro w hSw; (try dsimp only at hSw); go_simp; try with_reducible rfl)
        (try simp only [Act.put, List.setIfInBounds_toArray, List.set_cons_zero, List.set_cons_succ])
        refine wpAnyH_take (i := 1) (oi := { dst := some 25, op := Op.nilCheck (Operand.tmp 24), type := 0, pos := "marks.go:98", after := #[{ on := 0, ground := Ground.data }], guard := none }) (v := ?_) rfl (by kernel_rfl) (by kernel_rfl) (by kernel_rfl) (fun _ _ _ h => h) (Or.inl ⟨by rfl, ?_⟩) (by assumption) ?_
        rotate_left
        · (intro w hSw; (try dsimp only at hSw); go_simp; try with_reducible rfl)
        (try simp only [Act.put, List.setIfInBounds_toArray, List.set_cons_zero, List.set_cons_succ])
        refine wpAnyH_take (i := 2) (oi := { dst := some 26, op := Op.fieldAddr 67 (Operand.tmp 25) 0, type := 0, pos := "marks.go:98", after := #[{ on := 1, ground := Ground.data }], guard := none }) (v := ?_) rfl (by kernel_rfl) (by kernel_rfl) (by kernel_rfl) (fun _ _ _ h => h) (Or.inl ⟨by rfl, ?_⟩) (by assumption) ?_
        rotate_left
        · (intro w hSw; (try dsimp only at hSw); go_simp; try with_reducible rfl)
        (try simp only [Act.put, List.setIfInBounds_toArray, List.set_cons_zero, List.set_cons_succ])
        refine wpAnyH_take (i := 3) (oi := { dst := some 27, op := Op.load 65 (Operand.tmp 26), type := 65, pos := "marks.go:98", after := #[{ on := 2, ground := Ground.data }], guard := none }) (v := ?_) rfl (by kernel_rfl) (by kernel_rfl) (by kernel_rfl) (fun _ _ _ h => h) (Or.inl ⟨by rfl, ?_⟩) (by assumption) ?_
        rotate_left
        · (intro w hSw; (try dsimp only at hSw); go_simp; try with_reducible rfl)
        (try simp only [Act.put, List.setIfInBounds_toArray, List.set_cons_zero, List.set_cons_succ])
        refine wpAnyH_take (i := 4) (oi := { dst := some 28, op := Op.move (Operand.tmp 6), type := 3, pos := "marks.go:98", after := #[], guard := none }) (v := ?_) rfl (by kernel_rfl) (by kernel_rfl) (by kernel_rfl) (fun _ _ _ h => h) (Or.inl ⟨by rfl, ?_⟩) (by assumption) ?_
        rotate_left
        · (intro w hSw; (try dsimp only at hSw); go_simp; try with_reducible rfl)
        (try simp only [Act.put, List.setIfInBounds_toArray, List.set_cons_zero, List.set_cons_succ])
        refine wpAnyH_take (i := 5) (oi := { dst := some 29, op := Op.indexAddr 65 (Operand.tmp 27) (Operand.tmp 28), type := 0, pos := "marks.go:98", after := #[{ on := 3, ground := Ground.data }, { on := 4, ground := Ground.data }], guard := none }) (v := ?_) rfl (by kernel_rfl) (by kernel_rfl) (by kernel_rfl) (fun _ _ _ h => h) (Or.inl ⟨by rfl, ?_⟩) (by assumption) ?_
        rotate_left
        · (intro w hSw; (try dsimp only at hSw); go_simp; try with_reducible rfl)
        (try simp only [Act.put, List.setIfInBounds_toArray, List.set_cons_zero, List.set_cons_succ])
        refine wpAnyH_take (i := 6) (oi := { dst := some 30, op := Op.load 69 (Operand.tmp 29), type := 69, pos := "marks.go:98", after := #[{ on := 5, ground := Ground.data }], guard := none }) (v := ?_) rfl (by kernel_rfl) (by kernel_rfl) (by kernel_rfl) (fun _ _ _ h => h) (Or.inl ⟨by rfl, ?_⟩) (by assumption) ?_
        rotate_left
        · (intro w hSw; (try dsimp only at hSw); go_simp; try with_reducible rfl)
        (try simp only [Act.put, List.setIfInBounds_toArray, List.set_cons_zero, List.set_cons_succ])
        refine wpAnyH_take (i := 7) (oi := { dst := some 31, op := Op.load 69 (Operand.tmp 9), type := 69, pos := "marks.go:98", after := #[], guard := none }) (v := ?_) rfl (by kernel_rfl) (by kernel_rfl) (by kernel_rfl) (fun _ _ _ h => h) (Or.inl ⟨by rfl, ?_⟩) (by assumption) ?_
        rotate_left
        · (intro w hSw; (try dsimp only at hSw); go_simp; try with_reducible rfl)
        (try simp only [Act.put, List.setIfInBounds_toArray, List.set_cons_zero, List.set_cons_succ])
        refine wpAnyH_ready (rs := [8]) (by kernel_rfl) (by simp) ?_
        refine AllReadyH.cons (o := { dst := some 32, op := Op.call { callee := Callee.value (Operand.func 34), args := #[Operand.tmp 30, Operand.tmp 31], argTypes := #[69, 69] }, type := 4, pos := "marks.go:98", after := #[{ on := 6, ground := Ground.data }, { on := 7, ground := Ground.data }], guard := none }) rfl (fun K hK => ?_) AllReadyH.nil
        (go_simp; go_at_call 34; (with_reducible refine (INX.out _ hHeld.1 hHeld.1.size).mono ?_); rintro e w' ⟨rfl, hb⟩; go_wp2_with fail)
        refine hK.out _ _ ?_ (fun hHeld2 => ?_)
        · (first | exact KS.out _ (Below.refl _ _).drew | exact KS.out _ (by assumption) | assumption)
        clear hK K
        (try simp only [Act.put, List.setIfInBounds_toArray, List.set_cons_zero, List.set_cons_succ])
        clear hHeld; have hHeld := hHeld2; clear hHeld2
        refine wpAnyH_take (i := 9) (oi := { dst := some 33, op := Op.move (Operand.tmp 32), type := 4, pos := "marks.go:98", after := #[{ on := 8, ground := Ground.data }, { on := 8, ground := Ground.chain }], guard := none }) (v := ?_) rfl (by kernel_rfl) (by kernel_rfl) (by kernel_rfl) (fun _ _ _ h => h) (Or.inl ⟨by rfl, ?_⟩) (by assumption) ?_
        rotate_left
        · (intro w hSw; (try dsimp only at hSw); go_simp; try with_reducible rfl)
        (try simp only [Act.put, List.setIfInBounds_toArray, List.set_cons_zero, List.set_cons_succ])
        refine wpAnyH_take (i := 10) (oi := { dst := some 34, op := Op.fieldAddr 69 (Operand.tmp 7) 1, type := 0, pos := "marks.go:98", after := #[{ on := 9, ground := Ground.guard }], guard := some (9, true) }) (v := undef) rfl (by kernel_rfl) (by kernel_rfl) (by kernel_rfl) (fun _ _ _ h => h) (Or.inr ⟨by rfl, rfl⟩) (by assumption) ?_
        (try simp only [Act.put, List.setIfInBounds_toArray, List.set_cons_zero, List.set_cons_succ])
        refine wpAnyH_take (i := 11) (oi := { dst := some 35, op := Op.load 3 (Operand.tmp 34), type := 3, pos := "marks.go:98", after := #[{ on := 10, ground := Ground.data }, { on := 9, ground := Ground.guard }], guard := some (9, true) }) (v := undef) rfl (by kernel_rfl) (by kernel_rfl) (by kernel_rfl) (fun _ _ _ h => h) (Or.inr ⟨by rfl, rfl⟩) (by assumption) ?_
        (try simp only [Act.put, List.setIfInBounds_toArray, List.set_cons_zero, List.set_cons_succ])
        refine wpAnyH_take (i := 12) (oi := { dst := some 36, op := Op.binOp BinOp.eql 3 (Operand.tmp 35) (Operand.const (Value.int IntKind.i64 0)) 3, type := 4, pos := "marks.go:98", after := #[{ on := 11, ground := Ground.data }, { on := 9, ground := Ground.guard }], guard := some (9, true) }) (v := undef) rfl (by kernel_rfl) (by kernel_rfl) (by kernel_rfl) (fun _ _ _ h => h) (Or.inr ⟨by rfl, rfl⟩) (by assumption) ?_
        (try simp only [Act.put, List.setIfInBounds_toArray, List.set_cons_zero, List.set_cons_succ])
        refine wpAnyH_take (i := 13) (oi := { dst := some 37, op := Op.move (Operand.tmp 36), type := 4, pos := "marks.go:98", after := #[{ on := 12, ground := Ground.data }, { on := 9, ground := Ground.chain }, { on := 9, ground := Ground.guard }], guard := some (9, true) }) (v := undef) rfl (by kernel_rfl) (by kernel_rfl) (by kernel_rfl) (fun _ _ _ h => h) (Or.inr ⟨by rfl, rfl⟩) (by assumption) ?_
        (try simp only [Act.put, List.setIfInBounds_toArray, List.set_cons_zero, List.set_cons_succ])
        refine wpAnyH_take (i := 14) (oi := { dst := some 38, op := Op.load 69 (Operand.tmp 9), type := 69, pos := "marks.go:98", after := #[{ on := 13, ground := Ground.guard }], guard := some (13, false) }) (v := undef) rfl (by kernel_rfl) (by kernel_rfl) (by kernel_rfl) (fun _ _ _ h => h) (Or.inr ⟨by rfl, rfl⟩) (by assumption) ?_
        (try simp only [Act.put, List.setIfInBounds_toArray, List.set_cons_zero, List.set_cons_succ])
        refine wpAnyH_take (i := 15) (oi := { dst := some 39, op := Op.load 69 (Operand.tmp 7), type := 69, pos := "marks.go:98", after := #[{ on := 13, ground := Ground.guard }], guard := some (13, false) }) (v := undef) rfl (by kernel_rfl) (by kernel_rfl) (by kernel_rfl) (fun _ _ _ h => h) (Or.inr ⟨by rfl, rfl⟩) (by assumption) ?_
        (try simp only [Act.put, List.setIfInBounds_toArray, List.set_cons_zero, List.set_cons_succ])
        refine wpAnyH_take (i := 16) (oi := { dst := some 40, op := Op.call { callee := Callee.value (Operand.func 35), args := #[Operand.tmp 38, Operand.tmp 39], argTypes := #[69, 69] }, type := 4, pos := "marks.go:98", after := #[{ on := 14, ground := Ground.data }, { on := 15, ground := Ground.data }, { on := 13, ground := Ground.chain }, { on := 13, ground := Ground.guard }], guard := some (13, false) }) (v := undef) rfl (by kernel_rfl) (by kernel_rfl) (by kernel_rfl) (fun _ _ _ h => h) (Or.inr ⟨by rfl, rfl⟩) (by assumption) ?_
        (try simp only [Act.put, List.setIfInBounds_toArray, List.set_cons_zero, List.set_cons_succ])
        refine wpAnyH_take (i := 17) (oi := { dst := some 41, op := Op.pick (Operand.tmp 37) (Operand.const (Value.bool true)) (Operand.tmp 40), type := 4, pos := "marks.go:98", after := #[{ on := 13, ground := Ground.data }, { on := 16, ground := Ground.data }, { on := 9, ground := Ground.guard }], guard := some (9, true) }) (v := undef) rfl (by kernel_rfl) (by kernel_rfl) (by kernel_rfl) (fun _ _ _ h => h) (Or.inr ⟨by rfl, rfl⟩) (by assumption) ?_
        (try simp only [Act.put, List.setIfInBounds_toArray, List.set_cons_zero, List.set_cons_succ])
        refine wpAnyH_take (i := 18) (oi := { dst := some 42, op := Op.pick (Operand.tmp 33) (Operand.tmp 41) (Operand.const (Value.bool false)), type := 4, pos := "marks.go:98", after := #[{ on := 9, ground := Ground.data }, { on := 17, ground := Ground.data }], guard := none }) (v := ?_) rfl (by kernel_rfl) (by kernel_rfl) (by kernel_rfl) (fun _ _ _ h => h) (Or.inl ⟨by rfl, ?_⟩) (by assumption) ?_
        rotate_left
        · (intro w hSw; (try dsimp only at hSw); go_simp; try with_reducible rfl)
        (try simp only [Act.put, List.setIfInBounds_toArray, List.set_cons_zero, List.set_cons_succ])
        refine wpAnyH_done (by kernel_rfl) ?_ _
        refine NoPanic.normal ?_
        have hfin := hHeld.1
        have HF := Lib.hid hfin
        clear hfin
        go_wp2
        go_roundw
        case rel =>
          refine ⟨j + 1, by omega, by go_num, ?_, BV.out.trans (HF.out.mono (by omega))⟩
          rw [E.out, ← HP.out, ST2.out]
          exact RV.out.of_block (HF.out.block _ hPV)
        case measure => simp [intOf]; omega
      | true =>
        have A := INB.out
        rw [hin] at A
        have INX := Lib.hid A
        clear A
        by_cases hp0 : pi = 0
        · have ST2 := Lib.hid (show step ⟨yf, yt, yl, yr, yi⟩ ⟨pf, pt, pl', pr, pi⟩ ⟨zf, zt, zl, zr', zi⟩ = ⟨zf, zt, zl, zr', zi⟩ by rw [ST.out, hin, if_pos (by simp [hp0])])
          clear hin
          subst hp0
          refine wp_region_noPanic ?_
          refine wp_region_held_drew (S := (fun W => Below V.heap.size V W ∧ W.cell? ⟨mb, 0, none⟩ = some (.slice (some ⟨g, off, none⟩) n c) ∧ W.cell? ⟨g, off + k * 5, none⟩ = some (.int .i64 yf) ∧ W.cell? ⟨g, off + k * 5 + 1, none⟩ = some (.int .i64 yt) ∧ W.cell? ⟨g, off + k * 5 + 2, none⟩ = some (.bool yl) ∧ W.cell? ⟨g, off + k * 5 + 3, none⟩ = some (.bool yr) ∧ W.cell? ⟨g, off + k * 5 + 4, none⟩ = some (.int .i64 yi) ∧ W.cell? ⟨wr.heap.size, 0, none⟩ = some (.int .i64 zf) ∧ W.cell? ⟨wr.heap.size, 1, none⟩ = some (.int .i64 zt) ∧ W.cell? ⟨wr.heap.size, 2, none⟩ = some (.bool zl) ∧ W.cell? ⟨wr.heap.size, 3, none⟩ = some (.bool zr') ∧ W.cell? ⟨wr.heap.size, 4, none⟩ = some (.int .i64 zi) ∧ W.cell? ⟨w1.heap.size, 0, none⟩ = some (.int .i64 pf) ∧ W.cell? ⟨w1.heap.size, 1, none⟩ = some (.int .i64 pt) ∧ W.cell? ⟨w1.heap.size, 2, none⟩ = some (.bool pl') ∧ W.cell? ⟨w1.heap.size, 3, none⟩ = some (.bool pr) ∧ W.cell? ⟨w1.heap.size, 4, none⟩ = some (.int .i64 0))) (by kernel_rfl) ?_ (fun hHeld => ?_)
          · (first | exact KS.out _ (Below.refl _ _).drew | exact KS.out _ (by assumption) | assumption)
          refine wpAnyH_take (i := 0) (oi := { dst := some 24, op := Op.move (Operand.tmp 0), type := 41, pos := "marks.go:98", after := #[], guard := none }) (v := ?_) rfl (by kernel_rfl) (by kernel_rfl) (by kernel_rfl) (fun _ _ _ h => h) (Or.inl ⟨by rfl, ?_⟩) (by assumption) ?_
          rotate_left
          · (intro w hSw; (try dsimp only at hSw); go_simp; try with_reducible rfl)
          (try simp only [Act.put, List.setIfInBounds_toArray, List.set_cons_zero, List.set_cons_succ])
          refine wpAnyH_take (i := 1) (oi := { dst := some 25, op := Op.nilCheck (Operand.tmp 24), type := 0, pos := "marks.go:98", after := #[{ on := 0, ground := Ground.data }], guard := none }) (v := ?_) rfl (by kernel_rfl) (by kernel_rfl) (by kernel_rfl) (fun _ _ _ h => h) (Or.inl ⟨by rfl, ?_⟩) (by assumption) ?_
          rotate_left
          · (intro w hSw; (try dsimp only at hSw); go_simp; try with_reducible rfl)
          (try simp only [Act.put, List.setIfInBounds_toArray, List.set_cons_zero, List.set_cons_succ])
          refine wpAnyH_take (i := 2) (oi := { dst := some 26, op := Op.fieldAddr 67 (Operand.tmp 25) 0, type := 0, pos := "marks.go:98", after := #[{ on := 1, ground := Ground.data }], guard := none }) (v := ?_) rfl (by kernel_rfl) (by kernel_rfl) (by kernel_rfl) (fun _ _ _ h => h) (Or.inl ⟨by rfl, ?_⟩) (by assumption) ?_
          rotate_left
          · (intro w hSw; (try dsimp only at hSw); go_simp; try with_reducible rfl)
          (try simp only [Act.put, List.setIfInBounds_toArray, List.set_cons_zero, List.set_cons_succ])
          refine wpAnyH_take (i := 3) (oi := { dst := some 27, op := Op.load 65 (Operand.tmp 26), type := 65, pos := "marks.go:98", after := #[{ on := 2, ground := Ground.data }], guard := none }) (v := ?_) rfl (by kernel_rfl) (by kernel_rfl) (by kernel_rfl) (fun _ _ _ h => h) (Or.inl ⟨by rfl, ?_⟩) (by assumption) ?_
          rotate_left
          · (intro w hSw; (try dsimp only at hSw); go_simp; try with_reducible rfl)
          (try simp only [Act.put, List.setIfInBounds_toArray, List.set_cons_zero, List.set_cons_succ])
          refine wpAnyH_take (i := 4) (oi := { dst := some 28, op := Op.move (Operand.tmp 6), type := 3, pos := "marks.go:98", after := #[], guard := none }) (v := ?_) rfl (by kernel_rfl) (by kernel_rfl) (by kernel_rfl) (fun _ _ _ h => h) (Or.inl ⟨by rfl, ?_⟩) (by assumption) ?_
          rotate_left
          · (intro w hSw; (try dsimp only at hSw); go_simp; try with_reducible rfl)
          (try simp only [Act.put, List.setIfInBounds_toArray, List.set_cons_zero, List.set_cons_succ])
          refine wpAnyH_take (i := 5) (oi := { dst := some 29, op := Op.indexAddr 65 (Operand.tmp 27) (Operand.tmp 28), type := 0, pos := "marks.go:98", after := #[{ on := 3, ground := Ground.data }, { on := 4, ground := Ground.data }], guard := none }) (v := ?_) rfl (by kernel_rfl) (by kernel_rfl) (by kernel_rfl) (fun _ _ _ h => h) (Or.inl ⟨by rfl, ?_⟩) (by assumption) ?_
          rotate_left
          · (intro w hSw; (try dsimp only at hSw); go_simp; try with_reducible rfl)
          (try simp only [Act.put, List.setIfInBounds_toArray, List.set_cons_zero, List.set_cons_succ])
          refine wpAnyH_take (i := 6) (oi := { dst := some 30, op := Op.load 69 (Operand.tmp 29), type := 69, pos := "marks.go:98", after := #[{ on := 5, ground := Ground.data }], guard := none }) (v := ?_) rfl (by kernel_rfl) (by kernel_rfl) (by kernel_rfl) (fun _ _ _ h => h) (Or.inl ⟨by rfl, ?_⟩) (by assumption) ?_
          rotate_left
          · (intro w hSw; (try dsimp only at hSw); go_simp; try with_reducible rfl)
          (try simp only [Act.put, List.setIfInBounds_toArray, List.set_cons_zero, List.set_cons_succ])
          refine wpAnyH_take (i := 7) (oi := { dst := some 31, op := Op.load 69 (Operand.tmp 9), type := 69, pos := "marks.go:98", after := #[], guard := none }) (v := ?_) rfl (by kernel_rfl) (by kernel_rfl) (by kernel_rfl) (fun _ _ _ h => h) (Or.inl ⟨by rfl, ?_⟩) (by assumption) ?_
          rotate_left
          · (intro w hSw; (try dsimp only at hSw); go_simp; try with_reducible rfl)
          (try simp only [Act.put, List.setIfInBounds_toArray, List.set_cons_zero, List.set_cons_succ])
          refine wpAnyH_ready (rs := [8]) (by kernel_rfl) (by simp) ?_
          refine AllReadyH.cons (o := { dst := some 32, op := Op.call { callee := Callee.value (Operand.func 34), args := #[Operand.tmp 30, Operand.tmp 31], argTypes := #[69, 69] }, type := 4, pos := "marks.go:98", after := #[{ on := 6, ground := Ground.data }, { on := 7, ground := Ground.data }], guard := none }) rfl (fun K hK => ?_) AllReadyH.nil
          (go_simp; go_at_call 34; (with_reducible refine (INX.out _ hHeld.1 hHeld.1.size).mono ?_); rintro e w' ⟨rfl, hb⟩; go_wp2_with fail)
          refine hK.out _ _ ?_ (fun hHeld2 => ?_)
          · (first | exact KS.out _ (Below.refl _ _).drew | exact KS.out _ (by assumption) | assumption)
          clear hK K
          (try simp only [Act.put, List.setIfInBounds_toArray, List.set_cons_zero, List.set_cons_succ])
          clear hHeld; have hHeld := hHeld2; clear hHeld2
          refine wpAnyH_take (i := 9) (oi := { dst := some 33, op := Op.move (Operand.tmp 32), type := 4, pos := "marks.go:98", after := #[{ on := 8, ground := Ground.data }, { on := 8, ground := Ground.chain }], guard := none }) (v := ?_) rfl (by kernel_rfl) (by kernel_rfl) (by kernel_rfl) (fun _ _ _ h => h) (Or.inl ⟨by rfl, ?_⟩) (by assumption) ?_
          rotate_left
          · (intro w hSw; (try dsimp only at hSw); go_simp; try with_reducible rfl)
          (try simp only [Act.put, List.setIfInBounds_toArray, List.set_cons_zero, List.set_cons_succ])
          refine wpAnyH_take (i := 10) (oi := { dst := some 34, op := Op.fieldAddr 69 (Operand.tmp 7) 1, type := 0, pos := "marks.go:98", after := #[{ on := 9, ground := Ground.guard }], guard := some (9, true) }) (v := ?_) rfl (by kernel_rfl) (by kernel_rfl) (by kernel_rfl) (fun _ _ _ h => h) (Or.inl ⟨by rfl, ?_⟩) (by assumption) ?_
          rotate_left
          · (intro w hSw; (try dsimp only at hSw); go_simp; try with_reducible rfl)
          (try simp only [Act.put, List.setIfInBounds_toArray, List.set_cons_zero, List.set_cons_succ])
          refine wpAnyH_take (i := 11) (oi := { dst := some 35, op := Op.load 3 (Operand.tmp 34), type := 3, pos := "marks.go:98", after := #[{ on := 10, ground := Ground.data }, { on := 9, ground := Ground.guard }], guard := some (9, true) }) (v := ?_) rfl (by kernel_rfl) (by kernel_rfl) (by kernel_rfl) (fun _ _ _ h => h) (Or.inl ⟨by rfl, ?_⟩) (by assumption) ?_
          rotate_left
          · (intro w hSw; (try dsimp only at hSw); go_simp; try with_reducible rfl)
          (try simp only [Act.put, List.setIfInBounds_toArray, List.set_cons_zero, List.set_cons_succ])
          refine wpAnyH_take (i := 12) (oi := { dst := some 36, op := Op.binOp BinOp.eql 3 (Operand.tmp 35) (Operand.const (Value.int IntKind.i64 0)) 3, type := 4, pos := "marks.go:98", after := #[{ on := 11, ground := Ground.data }, { on := 9, ground := Ground.guard }], guard := some (9, true) }) (v := ?_) rfl (by kernel_rfl) (by kernel_rfl) (by kernel_rfl) (fun _ _ _ h => h) (Or.inl ⟨by rfl, ?_⟩) (by assumption) ?_
          rotate_left
          · (intro w hSw; (try dsimp only at hSw); go_simp; try with_reducible rfl)
          (try simp only [Act.put, List.setIfInBounds_toArray, List.set_cons_zero, List.set_cons_succ])
          refine wpAnyH_take (i := 13) (oi := { dst := some 37, op := Op.move (Operand.tmp 36), type := 4, pos := "marks.go:98", after := #[{ on := 12, ground := Ground.data }, { on := 9, ground := Ground.chain }, { on := 9, ground := Ground.guard }], guard := some (9, true) }) (v := ?_) rfl (by kernel_rfl) (by kernel_rfl) (by kernel_rfl) (fun _ _ _ h => h) (Or.inl ⟨by rfl, ?_⟩) (by assumption) ?_
          rotate_left
          · (intro w hSw; (try dsimp only at hSw); go_simp; try with_reducible rfl)
          (try simp only [Act.put, List.setIfInBounds_toArray, List.set_cons_zero, List.set_cons_succ])
          refine wpAnyH_take (i := 14) (oi := { dst := some 38, op := Op.load 69 (Operand.tmp 9), type := 69, pos := "marks.go:98", after := #[{ on := 13, ground := Ground.guard }], guard := some (13, false) }) (v := undef) rfl (by kernel_rfl) (by kernel_rfl) (by kernel_rfl) (fun _ _ _ h => h) (Or.inr ⟨by rfl, rfl⟩) (by assumption) ?_
          (try simp only [Act.put, List.setIfInBounds_toArray, List.set_cons_zero, List.set_cons_succ])
          refine wpAnyH_take (i := 15) (oi := { dst := some 39, op := Op.load 69 (Operand.tmp 7), type := 69, pos := "marks.go:98", after := #[{ on := 13, ground := Ground.guard }], guard := some (13, false) }) (v := undef) rfl (by kernel_rfl) (by kernel_rfl) (by kernel_rfl) (fun _ _ _ h => h) (Or.inr ⟨by rfl, rfl⟩) (by assumption) ?_
          (try simp only [Act.put, List.setIfInBounds_toArray, List.set_cons_zero, List.set_cons_succ])
          refine wpAnyH_take (i := 16) (oi := { dst := some 40, op := Op.call { callee := Callee.value (Operand.func 35), args := #[Operand.tmp 38, Operand.tmp 39], argTypes := #[69, 69] }, type := 4, pos := "marks.go:98", after := #[{ on := 14, ground := Ground.data }, { on := 15, ground := Ground.data }, { on := 13, ground := Ground.chain }, { on := 13, ground := Ground.guard }], guard := some (13, false) }) (v := undef) rfl (by kernel_rfl) (by kernel_rfl) (by kernel_rfl) (fun _ _ _ h => h) (Or.inr ⟨by rfl, rfl⟩) (by assumption) ?_
          (try simp only [Act.put, List.setIfInBounds_toArray, List.set_cons_zero, List.set_cons_succ])
          refine wpAnyH_take (i := 17) (oi := { dst := some 41, op := Op.pick (Operand.tmp 37) (Operand.const (Value.bool true)) (Operand.tmp 40), type := 4, pos := "marks.go:98", after := #[{ on := 13, ground := Ground.data }, { on := 16, ground := Ground.data }, { on := 9, ground := Ground.guard }], guard := some (9, true) }) (v := ?_) rfl (by kernel_rfl) (by kernel_rfl) (by kernel_rfl) (fun _ _ _ h => h) (Or.inl ⟨by rfl, ?_⟩) (by assumption) ?_
          rotate_left
          · (intro w hSw; (try dsimp only at hSw); go_simp; try with_reducible rfl)
          (try simp only [Act.put, List.setIfInBounds_toArray, List.set_cons_zero, List.set_cons_succ])
          refine wpAnyH_take (i := 18) (oi := { dst := some 42, op := Op.pick (Operand.tmp 33) (Operand.tmp 41) (Operand.const (Value.bool false)), type := 4, pos := "marks.go:98", after := #[{ on := 9, ground := Ground.data }, { on := 17, ground := Ground.data }], guard := none }) (v := ?_) rfl (by kernel_rfl) (by kernel_rfl) (by kernel_rfl) (fun _ _ _ h => h) (Or.inl ⟨by rfl, ?_⟩) (by assumption) ?_
          rotate_left
          · (intro w hSw; (try dsimp only at hSw); go_simp; try with_reducible rfl)
          (try simp only [Act.put, List.setIfInBounds_toArray, List.set_cons_zero, List.set_cons_succ])
          refine wpAnyH_done (by kernel_rfl) ?_ _
          refine NoPanic.normal ?_
          have hfin := hHeld.1
          have HF := Lib.hid hfin
          have R2 := RV.out.of_block (hfin.block _ hPV)
          obtain ⟨_, _, _, _, _, _, _, t0, t1, t2, t3, t4, u0, _⟩ := KS.out _ hfin
          obtain ⟨f0, f1, f2, f3, f4, f5, f6, f7, f8⟩ := row5_facts R2
          have R3 := Lib.hid (row5_put R2 ⟨zf, zt, zl, zr', zi⟩)
          clear hfin R2
          go_wp2
          go_roundw
          case rel =>
            refine ⟨j + 1, by omega, by go_num, ?_, (BV.out.trans (HF.out.mono (by omega))).trans (put5_below ⟨zf, zt, zl, zr', zi⟩ (Nat.le_refl _))⟩
            rw [E.out, ← HP.out, ST2.out]
            exact R3.out
          case measure => simp [intOf]; omega
        · have hpd : (pi == 0) = false := by simp [hp0]
          cases hne : nearB ⟨zf, zt, zl, zr', zi⟩ ⟨pf, pt, pl', pr, pi⟩ with
          | false =>
            have ST2 := Lib.hid (show step ⟨yf, yt, yl, yr, yi⟩ ⟨pf, pt, pl', pr, pi⟩ ⟨zf, zt, zl, zr', zi⟩ = ⟨pf, pt, pl', pr, pi⟩ by rw [ST.out, hin, hne, if_neg (by simp [hp0])])
            have A := NEB.out
            rw [hne] at A
            have NEX := Lib.hid A
            clear A hin hne
            refine wp_region_noPanic ?_
            refine wp_region_held_drew (S := (fun W => Below V.heap.size V W ∧ W.cell? ⟨mb, 0, none⟩ = some (.slice (some ⟨g, off, none⟩) n c) ∧ W.cell? ⟨g, off + k * 5, none⟩ = some (.int .i64 yf) ∧ W.cell? ⟨g, off + k * 5 + 1, none⟩ = some (.int .i64 yt) ∧ W.cell? ⟨g, off + k * 5 + 2, none⟩ = some (.bool yl) ∧ W.cell? ⟨g, off + k * 5 + 3, none⟩ = some (.bool yr) ∧ W.cell? ⟨g, off + k * 5 + 4, none⟩ = some (.int .i64 yi) ∧ W.cell? ⟨wr.heap.size, 0, none⟩ = some (.int .i64 zf) ∧ W.cell? ⟨wr.heap.size, 1, none⟩ = some (.int .i64 zt) ∧ W.cell? ⟨wr.heap.size, 2, none⟩ = some (.bool zl) ∧ W.cell? ⟨wr.heap.size, 3, none⟩ = some (.bool zr') ∧ W.cell? ⟨wr.heap.size, 4, none⟩ = some (.int .i64 zi) ∧ W.cell? ⟨w1.heap.size, 0, none⟩ = some (.int .i64 pf) ∧ W.cell? ⟨w1.heap.size, 1, none⟩ = some (.int .i64 pt) ∧ W.cell? ⟨w1.heap.size, 2, none⟩ = some (.bool pl') ∧ W.cell? ⟨w1.heap.size, 3, none⟩ = some (.bool pr) ∧ W.cell? ⟨w1.heap.size, 4, none⟩ = some (.int .i64 pi))) (by kernel_rfl) ?_ (fun hHeld => ?_)
            · (first | exact KS.out _ (Below.refl _ _).drew | exact KS.out _ (by assumption) | assumption)
            refine wpAnyH_take (i := 0) (oi := { dst := some 24, op := Op.move (Operand.tmp 0), type := 41, pos := "marks.go:98", after := #[], guard := none }) (v := ?_) rfl (by kernel_rfl) (by kernel_rfl) (by kernel_rfl) (fun _ _ _ h => h) (Or.inl ⟨by rfl, ?_⟩) (by assumption) ?_
            rotate_left
            · (intro w hSw; (try dsimp only at hSw); go_simp; try with_reducible rfl)
            (try simp only [Act.put, List.setIfInBounds_toArray, List.set_cons_zero, List.set_cons_succ])
            refine wpAnyH_take (i := 1) (oi := { dst := some 25, op := Op.nilCheck (Operand.tmp 24), type := 0, pos := "marks.go:98", after := #[{ on := 0, ground := Ground.data }], guard := none }) (v := ?_) rfl (by kernel_rfl) (by kernel_rfl) (by kernel_rfl) (fun _ _ _ h => h) (Or.inl ⟨by rfl, ?_⟩) (by assumption) ?_
            rotate_left
            · (intro w hSw; (try dsimp only at hSw); go_simp; try with_reducible rfl)
            (try simp only [Act.put, List.setIfInBounds_toArray, List.set_cons_zero, List.set_cons_succ])
            refine wpAnyH_take (i := 2) (oi := { dst := some 26, op := Op.fieldAddr 67 (Operand.tmp 25) 0, type := 0, pos := "marks.go:98", after := #[{ on := 1, ground := Ground.data }], guard := none }) (v := ?_) rfl (by kernel_rfl) (by kernel_rfl) (by kernel_rfl) (fun _ _ _ h => h) (Or.inl ⟨by rfl, ?_⟩) (by assumption) ?_
            rotate_left
            · (intro w hSw; (try dsimp only at hSw); go_simp; try with_reducible rfl)
            (try simp only [Act.put, List.setIfInBounds_toArray, List.set_cons_zero, List.set_cons_succ])
            refine wpAnyH_take (i := 3) (oi := { dst := some 27, op := Op.load 65 (Operand.tmp 26), type := 65, pos := "marks.go:98", after := #[{ on := 2, ground := Ground.data }], guard := none }) (v := ?_) rfl (by kernel_rfl) (by kernel_rfl) (by kernel_rfl) (fun _ _ _ h => h) (Or.inl ⟨by rfl, ?_⟩) (by assumption) ?_
            rotate_left
            · (intro w hSw; (try dsimp only at hSw); go_simp; try with_reducible rfl)
            (try simp only [Act.put, List.setIfInBounds_toArray, List.set_cons_zero, List.set_cons_succ])
            refine wpAnyH_take (i := 4) (oi := { dst := some 28, op := Op.move (Operand.tmp 6), type := 3, pos := "marks.go:98", after := #[], guard := none }) (v := ?_) rfl (by kernel_rfl) (by kernel_rfl) (by kernel_rfl) (fun _ _ _ h => h) (Or.inl ⟨by rfl, ?_⟩) (by assumption) ?_
            rotate_left
            · (intro w hSw; (try dsimp only at hSw); go_simp; try with_reducible rfl)
            (try simp only [Act.put, List.setIfInBounds_toArray, List.set_cons_zero, List.set_cons_succ])
            refine wpAnyH_take (i := 5) (oi := { dst := some 29, op := Op.indexAddr 65 (Operand.tmp 27) (Operand.tmp 28), type := 0, pos := "marks.go:98", after := #[{ on := 3, ground := Ground.data }, { on := 4, ground := Ground.data }], guard := none }) (v := ?_) rfl (by kernel_rfl) (by kernel_rfl) (by kernel_rfl) (fun _ _ _ h => h) (Or.inl ⟨by rfl, ?_⟩) (by assumption) ?_
            rotate_left
            · (intro w hSw; (try dsimp only at hSw); go_simp; try with_reducible rfl)
            (try simp only [Act.put, List.setIfInBounds_toArray, List.set_cons_zero, List.set_cons_succ])
            refine wpAnyH_take (i := 6) (oi := { dst := some 30, op := Op.load 69 (Operand.tmp 29), type := 69, pos := "marks.go:98", after := #[{ on := 5, ground := Ground.data }], guard := none }) (v := ?_) rfl (by kernel_rfl) (by kernel_rfl) (by kernel_rfl) (fun _ _ _ h => h) (Or.inl ⟨by rfl, ?_⟩) (by assumption) ?_
            rotate_left
            · (intro w hSw; (try dsimp only at hSw); go_simp; try with_reducible rfl)
            (try simp only [Act.put, List.setIfInBounds_toArray, List.set_cons_zero, List.set_cons_succ])
            refine wpAnyH_take (i := 7) (oi := { dst := some 31, op := Op.load 69 (Operand.tmp 9), type := 69, pos := "marks.go:98", after := #[], guard := none }) (v := ?_) rfl (by kernel_rfl) (by kernel_rfl) (by kernel_rfl) (fun _ _ _ h => h) (Or.inl ⟨by rfl, ?_⟩) (by assumption) ?_
            rotate_left
            · (intro w hSw; (try dsimp only at hSw); go_simp; try with_reducible rfl)
            (try simp only [Act.put, List.setIfInBounds_toArray, List.set_cons_zero, List.set_cons_succ])
            refine wpAnyH_ready (rs := [8]) (by kernel_rfl) (by simp) ?_
            refine AllReadyH.cons (o := { dst := some 32, op := Op.call { callee := Callee.value (Operand.func 34), args := #[Operand.tmp 30, Operand.tmp 31], argTypes := #[69, 69] }, type := 4, pos := "marks.go:98", after := #[{ on := 6, ground := Ground.data }, { on := 7, ground := Ground.data }], guard := none }) rfl (fun K hK => ?_) AllReadyH.nil
            (go_simp; go_at_call 34; (with_reducible refine (INX.out _ hHeld.1 hHeld.1.size).mono ?_); rintro e w' ⟨rfl, hb⟩; go_wp2_with fail)
            refine hK.out _ _ ?_ (fun hHeld2 => ?_)
            · (first | exact KS.out _ (Below.refl _ _).drew | exact KS.out _ (by assumption) | assumption)
            clear hK K
            (try simp only [Act.put, List.setIfInBounds_toArray, List.set_cons_zero, List.set_cons_succ])
            clear hHeld; have hHeld := hHeld2; clear hHeld2
            refine wpAnyH_take (i := 9) (oi := { dst := some 33, op := Op.move (Operand.tmp 32), type := 4, pos := "marks.go:98", after := #[{ on := 8, ground := Ground.data }, { on := 8, ground := Ground.chain }], guard := none }) (v := ?_) rfl (by kernel_rfl) (by kernel_rfl) (by kernel_rfl) (fun _ _ _ h => h) (Or.inl ⟨by rfl, ?_⟩) (by assumption) ?_
            rotate_left
            · (intro w hSw; (try dsimp only at hSw); go_simp; try with_reducible rfl)
            (try simp only [Act.put, List.setIfInBounds_toArray, List.set_cons_zero, List.set_cons_succ])
            refine wpAnyH_take (i := 10) (oi := { dst := some 34, op := Op.fieldAddr 69 (Operand.tmp 7) 1, type := 0, pos := "marks.go:98", after := #[{ on := 9, ground := Ground.guard }], guard := some (9, true) }) (v := ?_) rfl (by kernel_rfl) (by kernel_rfl) (by kernel_rfl) (fun _ _ _ h => h) (Or.inl ⟨by rfl, ?_⟩) (by assumption) ?_
            rotate_left
            · (intro w hSw; (try dsimp only at hSw); go_simp; try with_reducible rfl)
            (try simp only [Act.put, List.setIfInBounds_toArray, List.set_cons_zero, List.set_cons_succ])
            refine wpAnyH_take (i := 11) (oi := { dst := some 35, op := Op.load 3 (Operand.tmp 34), type := 3, pos := "marks.go:98", after := #[{ on := 10, ground := Ground.data }, { on := 9, ground := Ground.guard }], guard := some (9, true) }) (v := ?_) rfl (by kernel_rfl) (by kernel_rfl) (by kernel_rfl) (fun _ _ _ h => h) (Or.inl ⟨by rfl, ?_⟩) (by assumption) ?_
            rotate_left
            · (intro w hSw; (try dsimp only at hSw); go_simp; try with_reducible rfl)
            (try simp only [Act.put, List.setIfInBounds_toArray, List.set_cons_zero, List.set_cons_succ])
            refine wpAnyH_take (i := 12) (oi := { dst := some 36, op := Op.binOp BinOp.eql 3 (Operand.tmp 35) (Operand.const (Value.int IntKind.i64 0)) 3, type := 4, pos := "marks.go:98", after := #[{ on := 11, ground := Ground.data }, { on := 9, ground := Ground.guard }], guard := some (9, true) }) (v := ?_) rfl (by kernel_rfl) (by kernel_rfl) (by kernel_rfl) (fun _ _ _ h => h) (Or.inl ⟨by rfl, ?_⟩) (by assumption) ?_
            rotate_left
            · (intro w hSw; (try dsimp only at hSw); go_simp; try with_reducible rfl)
            (try simp only [Act.put, List.setIfInBounds_toArray, List.set_cons_zero, List.set_cons_succ])
            refine wpAnyH_take (i := 13) (oi := { dst := some 37, op := Op.move (Operand.tmp 36), type := 4, pos := "marks.go:98", after := #[{ on := 12, ground := Ground.data }, { on := 9, ground := Ground.chain }, { on := 9, ground := Ground.guard }], guard := some (9, true) }) (v := ?_) rfl (by kernel_rfl) (by kernel_rfl) (by kernel_rfl) (fun _ _ _ h => h) (Or.inl ⟨by rfl, ?_⟩) (by assumption) ?_
            rotate_left
            · (intro w hSw; (try dsimp only at hSw); go_simp; try with_reducible rfl)
            (try simp only [Act.put, List.setIfInBounds_toArray, List.set_cons_zero, List.set_cons_succ])
            refine wpAnyH_take (i := 14) (oi := { dst := some 38, op := Op.load 69 (Operand.tmp 9), type := 69, pos := "marks.go:98", after := #[{ on := 13, ground := Ground.guard }], guard := some (13, false) }) (v := ?_) rfl (by kernel_rfl) (by kernel_rfl) (by kernel_rfl) (fun _ _ _ h => h) (Or.inl ⟨by rfl, ?_⟩) (by assumption) ?_
            rotate_left
            · (intro w hSw; (try dsimp only at hSw); go_simp; try with_reducible rfl)
            (try simp only [Act.put, List.setIfInBounds_toArray, List.set_cons_zero, List.set_cons_succ])
            refine wpAnyH_take (i := 15) (oi := { dst := some 39, op := Op.load 69 (Operand.tmp 7), type := 69, pos := "marks.go:98", after := #[{ on := 13, ground := Ground.guard }], guard := some (13, false) }) (v := ?_) rfl (by kernel_rfl) (by kernel_rfl) (by kernel_rfl) (fun _ _ _ h => h) (Or.inl ⟨by rfl, ?_⟩) (by assumption) ?_
            rotate_left
            · (intro w hSw; (try dsimp only at hSw); go_simp; try with_reducible rfl)
            (try simp only [Act.put, List.setIfInBounds_toArray, List.set_cons_zero, List.set_cons_succ])
            refine wpAnyH_ready (rs := [16]) (by kernel_rfl) (by simp) ?_
            refine AllReadyH.cons (o := { dst := some 40, op := Op.call { callee := Callee.value (Operand.func 35), args := #[Operand.tmp 38, Operand.tmp 39], argTypes := #[69, 69] }, type := 4, pos := "marks.go:98", after := #[{ on := 14, ground := Ground.data }, { on := 15, ground := Ground.data }, { on := 13, ground := Ground.chain }, { on := 13, ground := Ground.guard }], guard := some (13, false) }) rfl (fun K hK => ?_) AllReadyH.nil
            (go_simp; go_at_call 35; (with_reducible refine (NEX.out _ hHeld.1 hHeld.1.size).mono ?_); rintro e w' ⟨rfl, hb2⟩; go_wp2_with fail)
            refine hK.out _ _ ?_ (fun hHeld2 => ?_)
            · (first | exact KS.out _ (Below.refl _ _).drew | exact KS.out _ (by assumption) | assumption)
            clear hK K
            (try simp only [Act.put, List.setIfInBounds_toArray, List.set_cons_zero, List.set_cons_succ])
            clear hHeld; have hHeld := hHeld2; clear hHeld2
            refine wpAnyH_take (i := 17) (oi := { dst := some 41, op := Op.pick (Operand.tmp 37) (Operand.const (Value.bool true)) (Operand.tmp 40), type := 4, pos := "marks.go:98", after := #[{ on := 13, ground := Ground.data }, { on := 16, ground := Ground.data }, { on := 9, ground := Ground.guard }], guard := some (9, true) }) (v := ?_) rfl (by kernel_rfl) (by kernel_rfl) (by kernel_rfl) (fun _ _ _ h => h) (Or.inl ⟨by rfl, ?_⟩) (by assumption) ?_
            rotate_left
            · (intro w hSw; (try dsimp only at hSw); go_simp; try with_reducible rfl)
            (try simp only [Act.put, List.setIfInBounds_toArray, List.set_cons_zero, List.set_cons_succ])
            refine wpAnyH_take (i := 18) (oi := { dst := some 42, op := Op.pick (Operand.tmp 33) (Operand.tmp 41) (Operand.const (Value.bool false)), type := 4, pos := "marks.go:98", after := #[{ on := 9, ground := Ground.data }, { on := 17, ground := Ground.data }], guard := none }) (v := ?_) rfl (by kernel_rfl) (by kernel_rfl) (by kernel_rfl) (fun _ _ _ h => h) (Or.inl ⟨by rfl, ?_⟩) (by assumption) ?_
            rotate_left
            · (intro w hSw; (try dsimp only at hSw); go_simp; try with_reducible rfl)
            (try simp only [Act.put, List.setIfInBounds_toArray, List.set_cons_zero, List.set_cons_succ])
            refine wpAnyH_done (by kernel_rfl) ?_ _
            refine NoPanic.normal ?_
            have hfin := hHeld.1
            have HF := Lib.hid hfin
            clear hfin
            go_wp2
            go_roundw
            case rel =>
              refine ⟨j + 1, by omega, by go_num, ?_, BV.out.trans (HF.out.mono (by omega))⟩
              rw [E.out, ← HP.out, ST2.out]
              exact RV.out.of_block (HF.out.block _ hPV)
            case measure => simp [intOf]; omega
          | true =>
            have ST2 := Lib.hid (show step ⟨yf, yt, yl, yr, yi⟩ ⟨pf, pt, pl', pr, pi⟩ ⟨zf, zt, zl, zr', zi⟩ = ⟨zf, zt, zl, zr', zi⟩ by rw [ST.out, hin, hne, if_pos (by simp)])
            have A := NEB.out
            rw [hne] at A
            have NEX := Lib.hid A
            clear A hin hne
            refine wp_region_noPanic ?_
            refine wp_region_held_drew (S := (fun W => Below V.heap.size V W ∧ W.cell? ⟨mb, 0, none⟩ = some (.slice (some ⟨g, off, none⟩) n c) ∧ W.cell? ⟨g, off + k * 5, none⟩ = some (.int .i64 yf) ∧ W.cell? ⟨g, off + k * 5 + 1, none⟩ = some (.int .i64 yt) ∧ W.cell? ⟨g, off + k * 5 + 2, none⟩ = some (.bool yl) ∧ W.cell? ⟨g, off + k * 5 + 3, none⟩ = some (.bool yr) ∧ W.cell? ⟨g, off + k * 5 + 4, none⟩ = some (.int .i64 yi) ∧ W.cell? ⟨wr.heap.size, 0, none⟩ = some (.int .i64 zf) ∧ W.cell? ⟨wr.heap.size, 1, none⟩ = some (.int .i64 zt) ∧ W.cell? ⟨wr.heap.size, 2, none⟩ = some (.bool zl) ∧ W.cell? ⟨wr.heap.size, 3, none⟩ = some (.bool zr') ∧ W.cell? ⟨wr.heap.size, 4, none⟩ = some (.int .i64 zi) ∧ W.cell? ⟨w1.heap.size, 0, none⟩ = some (.int .i64 pf) ∧ W.cell? ⟨w1.heap.size, 1, none⟩ = some (.int .i64 pt) ∧ W.cell? ⟨w1.heap.size, 2, none⟩ = some (.bool pl') ∧ W.cell? ⟨w1.heap.size, 3, none⟩ = some (.bool pr) ∧ W.cell? ⟨w1.heap.size, 4, none⟩ = some (.int .i64 pi))) (by kernel_rfl) ?_ (fun hHeld => ?_)
            · (first | exact KS.out _ (Below.refl _ _).drew | exact KS.out _ (by assumption) | assumption)
            refine wpAnyH_take (i := 0) (oi := { dst := some 24, op := Op.move (Operand.tmp 0), type := 41, pos := "marks.go:98", after := #[], guard := none }) (v := ?_) rfl (by kernel_rfl) (by kernel_rfl) (by kernel_rfl) (fun _ _ _ h => h) (Or.inl ⟨by rfl, ?_⟩) (by assumption) ?_
            rotate_left
            · (intro w hSw; (try dsimp only at hSw); go_simp; try with_reducible rfl)
            (try simp only [Act.put, List.setIfInBounds_toArray, List.set_cons_zero, List.set_cons_succ])
            refine wpAnyH_take (i := 1) (oi := { dst := some 25, op := Op.nilCheck (Operand.tmp 24), type := 0, pos := "marks.go:98", after := #[{ on := 0, ground := Ground.data }], guard := none }) (v := ?_) rfl (by kernel_rfl) (by kernel_rfl) (by kernel_rfl) (fun _ _ _ h => h) (Or.inl ⟨by rfl, ?_⟩) (by assumption) ?_
            rotate_left
            · (intro w hSw; (try dsimp only at hSw); go_simp; try with_reducible rfl)
            (try simp only [Act.put, List.setIfInBounds_toArray, List.set_cons_zero, List.set_cons_succ])
            refine wpAnyH_take (i := 2) (oi := { dst := some 26, op := Op.fieldAddr 67 (Operand.tmp 25) 0, type := 0, pos := "marks.go:98", after := #[{ on := 1, ground := Ground.data }], guard := none }) (v := ?_) rfl (by kernel_rfl) (by kernel_rfl) (by kernel_rfl) (fun _ _ _ h => h) (Or.inl ⟨by rfl, ?_⟩) (by assumption) ?_
            rotate_left
            · (intro w hSw; (try dsimp only at hSw); go_simp; try with_reducible rfl)
            (try simp only [Act.put, List.setIfInBounds_toArray, List.set_cons_zero, List.set_cons_succ])
            refine wpAnyH_take (i := 3) (oi := { dst := some 27, op := Op.load 65 (Operand.tmp 26), type := 65, pos := "marks.go:98", after := #[{ on := 2, ground := Ground.data }], guard := none }) (v := ?_) rfl (by kernel_rfl) (by kernel_rfl) (by kernel_rfl) (fun _ _ _ h => h) (Or.inl ⟨by rfl, ?_⟩) (by assumption) ?_
            rotate_left
            · (intro w hSw; (try dsimp only at hSw); go_simp; try with_reducible rfl)
            (try simp only [Act.put, List.setIfInBounds_toArray, List.set_cons_zero, List.set_cons_succ])
            refine wpAnyH_take (i := 4) (oi := { dst := some 28, op := Op.move (Operand.tmp 6), type := 3, pos := "marks.go:98", after := #[], guard := none }) (v := ?_) rfl (by kernel_rfl) (by kernel_rfl) (by kernel_rfl) (fun _ _ _ h => h) (Or.inl ⟨by rfl, ?_⟩) (by assumption) ?_
            rotate_left
            · (intro w hSw; (try dsimp only at hSw); go_simp; try with_reducible rfl)
            (try simp only [Act.put, List.setIfInBounds_toArray, List.set_cons_zero, List.set_cons_succ])
            refine wpAnyH_take (i := 5) (oi := { dst := some 29, op := Op.indexAddr 65 (Operand.tmp 27) (Operand.tmp 28), type := 0, pos := "marks.go:98", after := #[{ on := 3, ground := Ground.data }, { on := 4, ground := Ground.data }], guard := none }) (v := ?_) rfl (by kernel_rfl) (by kernel_rfl) (by kernel_rfl) (fun _ _ _ h => h) (Or.inl ⟨by rfl, ?_⟩) (by assumption) ?_
            rotate_left
            · (intro w hSw; (try dsimp only at hSw); go_simp; try with_reducible rfl)
            (try simp only [Act.put, List.setIfInBounds_toArray, List.set_cons_zero, List.set_cons_succ])
            refine wpAnyH_take (i := 6) (oi := { dst := some 30, op := Op.load 69 (Operand.tmp 29), type := 69, pos := "marks.go:98", after := #[{ on := 5, ground := Ground.data }], guard := none }) (v := ?_) rfl (by kernel_rfl) (by kernel_rfl) (by kernel_rfl) (fun _ _ _ h => h) (Or.inl ⟨by rfl, ?_⟩) (by assumption) ?_
            rotate_left
            · (intro w hSw; (try dsimp only at hSw); go_simp; try with_reducible rfl)
            (try simp only [Act.put, List.setIfInBounds_toArray, List.set_cons_zero, List.set_cons_succ])
            refine wpAnyH_take (i := 7) (oi := { dst := some 31, op := Op.load 69 (Operand.tmp 9), type := 69, pos := "marks.go:98", after := #[], guard := none }) (v := ?_) rfl (by kernel_rfl) (by kernel_rfl) (by kernel_rfl) (fun _ _ _ h => h) (Or.inl ⟨by rfl, ?_⟩) (by assumption) ?_
            rotate_left
            · (intro w hSw; (try dsimp only at hSw); go_simp; try with_reducible rfl)
            (try simp only [Act.put, List.setIfInBounds_toArray, List.set_cons_zero, List.set_cons_succ])
            refine wpAnyH_ready (rs := [8]) (by kernel_rfl) (by simp) ?_
            refine AllReadyH.cons (o := { dst := some 32, op := Op.call { callee := Callee.value (Operand.func 34), args := #[Operand.tmp 30, Operand.tmp 31], argTypes := #[69, 69] }, type := 4, pos := "marks.go:98", after := #[{ on := 6, ground := Ground.data }, { on := 7, ground := Ground.data }], guard := none }) rfl (fun K hK => ?_) AllReadyH.nil
            (go_simp; go_at_call 34; (with_reducible refine (INX.out _ hHeld.1 hHeld.1.size).mono ?_); rintro e w' ⟨rfl, hb⟩; go_wp2_with fail)
            refine hK.out _ _ ?_ (fun hHeld2 => ?_)
            · (first | exact KS.out _ (Below.refl _ _).drew | exact KS.out _ (by assumption) | assumption)
            clear hK K
            (try simp only [Act.put, List.setIfInBounds_toArray, List.set_cons_zero, List.set_cons_succ])
            clear hHeld; have hHeld := hHeld2; clear hHeld2
            refine wpAnyH_take (i := 9) (oi := { dst := some 33, op := Op.move (Operand.tmp 32), type := 4, pos := "marks.go:98", after := #[{ on := 8, ground := Ground.data }, { on := 8, ground := Ground.chain }], guard := none }) (v := ?_) rfl (by kernel_rfl) (by kernel_rfl) (by kernel_rfl) (fun _ _ _ h => h) (Or.inl ⟨by rfl, ?_⟩) (by assumption) ?_
            rotate_left
            · (intro w hSw; (try dsimp only at hSw); go_simp; try with_reducible rfl)
            (try simp only [Act.put, List.setIfInBounds_toArray, List.set_cons_zero, List.set_cons_succ])
            refine wpAnyH_take (i := 10) (oi := { dst := some 34, op := Op.fieldAddr 69 (Operand.tmp 7) 1, type := 0, pos := "marks.go:98", after := #[{ on := 9, ground := Ground.guard }], guard := some (9, true) }) (v := ?_) rfl (by kernel_rfl) (by kernel_rfl) (by kernel_rfl) (fun _ _ _ h => h) (Or.inl ⟨by rfl, ?_⟩) (by assumption) ?_
            rotate_left
            · (intro w hSw; (try dsimp only at hSw); go_simp; try with_reducible rfl)
            (try simp only [Act.put, List.setIfInBounds_toArray, List.set_cons_zero, List.set_cons_succ])
            refine wpAnyH_take (i := 11) (oi := { dst := some 35, op := Op.load 3 (Operand.tmp 34), type := 3, pos := "marks.go:98", after := #[{ on := 10, ground := Ground.data }, { on := 9, ground := Ground.guard }], guard := some (9, true) }) (v := ?_) rfl (by kernel_rfl) (by kernel_rfl) (by kernel_rfl) (fun _ _ _ h => h) (Or.inl ⟨by rfl, ?_⟩) (by assumption) ?_
            rotate_left
            · (intro w hSw; (try dsimp only at hSw); go_simp; try with_reducible rfl)
            (try simp only [Act.put, List.setIfInBounds_toArray, List.set_cons_zero, List.set_cons_succ])
            refine wpAnyH_take (i := 12) (oi := { dst := some 36, op := Op.binOp BinOp.eql 3 (Operand.tmp 35) (Operand.const (Value.int IntKind.i64 0)) 3, type := 4, pos := "marks.go:98", after := #[{ on := 11, ground := Ground.data }, { on := 9, ground := Ground.guard }], guard := some (9, true) }) (v := ?_) rfl (by kernel_rfl) (by kernel_rfl) (by kernel_rfl) (fun _ _ _ h => h) (Or.inl ⟨by rfl, ?_⟩) (by assumption) ?_
            rotate_left
            · (intro w hSw; (try dsimp only at hSw); go_simp; try with_reducible rfl)
            (try simp only [Act.put, List.setIfInBounds_toArray, List.set_cons_zero, List.set_cons_succ])
            refine wpAnyH_take (i := 13) (oi := { dst := some 37, op := Op.move (Operand.tmp 36), type := 4, pos := "marks.go:98", after := #[{ on := 12, ground := Ground.data }, { on := 9, ground := Ground.chain }, { on := 9, ground := Ground.guard }], guard := some (9, true) }) (v := ?_) rfl (by kernel_rfl) (by kernel_rfl) (by kernel_rfl) (fun _ _ _ h => h) (Or.inl ⟨by rfl, ?_⟩) (by assumption) ?_
            rotate_left
            · (intro w hSw; (try dsimp only at hSw); go_simp; try with_reducible rfl)
            (try simp only [Act.put, List.setIfInBounds_toArray, List.set_cons_zero, List.set_cons_succ])
            refine wpAnyH_take (i := 14) (oi := { dst := some 38, op := Op.load 69 (Operand.tmp 9), type := 69, pos := "marks.go:98", after := #[{ on := 13, ground := Ground.guard }], guard := some (13, false) }) (v := ?_) rfl (by kernel_rfl) (by kernel_rfl) (by kernel_rfl) (fun _ _ _ h => h) (Or.inl ⟨by rfl, ?_⟩) (by assumption) ?_
            rotate_left
            · (intro w hSw; (try dsimp only at hSw); go_simp; try with_reducible rfl)
            (try simp only [Act.put, List.setIfInBounds_toArray, List.set_cons_zero, List.set_cons_succ])
            refine wpAnyH_take (i := 15) (oi := { dst := some 39, op := Op.load 69 (Operand.tmp 7), type := 69, pos := "marks.go:98", after := #[{ on := 13, ground := Ground.guard }], guard := some (13, false) }) (v := ?_) rfl (by kernel_rfl) (by kernel_rfl) (by kernel_rfl) (fun _ _ _ h => h) (Or.inl ⟨by rfl, ?_⟩) (by assumption) ?_
            rotate_left
            · (intro w hSw; (try dsimp only at hSw); go_simp; try with_reducible rfl)
            (try simp only [Act.put, List.setIfInBounds_toArray, List.set_cons_zero, List.set_cons_succ])
            refine wpAnyH_ready (rs := [16]) (by kernel_rfl) (by simp) ?_
            refine AllReadyH.cons (o := { dst := some 40, op := Op.call { callee := Callee.value (Operand.func 35), args := #[Operand.tmp 38, Operand.tmp 39], argTypes := #[69, 69] }, type := 4, pos := "marks.go:98", after := #[{ on := 14, ground := Ground.data }, { on := 15, ground := Ground.data }, { on := 13, ground := Ground.chain }, { on := 13, ground := Ground.guard }], guard := some (13, false) }) rfl (fun K hK => ?_) AllReadyH.nil
            (go_simp; go_at_call 35; (with_reducible refine (NEX.out _ hHeld.1 hHeld.1.size).mono ?_); rintro e w' ⟨rfl, hb2⟩; go_wp2_with fail)
            refine hK.out _ _ ?_ (fun hHeld2 => ?_)
            · (first | exact KS.out _ (Below.refl _ _).drew | exact KS.out _ (by assumption) | assumption)
            clear hK K
            (try simp only [Act.put, List.setIfInBounds_toArray, List.set_cons_zero, List.set_cons_succ])
            clear hHeld; have hHeld := hHeld2; clear hHeld2
            refine wpAnyH_take (i := 17) (oi := { dst := some 41, op := Op.pick (Operand.tmp 37) (Operand.const (Value.bool true)) (Operand.tmp 40), type := 4, pos := "marks.go:98", after := #[{ on := 13, ground := Ground.data }, { on := 16, ground := Ground.data }, { on := 9, ground := Ground.guard }], guard := some (9, true) }) (v := ?_) rfl (by kernel_rfl) (by kernel_rfl) (by kernel_rfl) (fun _ _ _ h => h) (Or.inl ⟨by rfl, ?_⟩) (by assumption) ?_
            rotate_left
            · (intro w hSw; (try dsimp only at hSw); go_simp; try with_reducible rfl)
            (try simp only [Act.put, List.setIfInBounds_toArray, List.set_cons_zero, List.set_cons_succ])
            refine wpAnyH_take (i := 18) (oi := { dst := some 42, op := Op.pick (Operand.tmp 33) (Operand.tmp 41) (Operand.const (Value.bool false)), type := 4, pos := "marks.go:98", after := #[{ on := 9, ground := Ground.data }, { on := 17, ground := Ground.data }], guard := none }) (v := ?_) rfl (by kernel_rfl) (by kernel_rfl) (by kernel_rfl) (fun _ _ _ h => h) (Or.inl ⟨by rfl, ?_⟩) (by assumption) ?_
            rotate_left
            · (intro w hSw; (try dsimp only at hSw); go_simp; try with_reducible rfl)
            (try simp only [Act.put, List.setIfInBounds_toArray, List.set_cons_zero, List.set_cons_succ])
            refine wpAnyH_done (by kernel_rfl) ?_ _
            refine NoPanic.normal ?_
            have hfin := hHeld.1
            have HF := Lib.hid hfin
            have R2 := RV.out.of_block (hfin.block _ hPV)
            obtain ⟨_, _, _, _, _, _, _, t0, t1, t2, t3, t4, u0, _⟩ := KS.out _ hfin
            obtain ⟨f0, f1, f2, f3, f4, f5, f6, f7, f8⟩ := row5_facts R2
            have R3 := Lib.hid (row5_put R2 ⟨zf, zt, zl, zr', zi⟩)
            clear hfin R2
            go_wp2
            go_roundw
            case rel =>
              refine ⟨j + 1, by omega, by go_num, ?_, (BV.out.trans (HF.out.mono (by omega))).trans (put5_below ⟨zf, zt, zl, zr', zi⟩ (Nat.le_refl _))⟩
              rw [E.out, ← HP.out, ST2.out]
              exact R3.out
            case measure => simp [intOf]; omega
    · have e : rs.take j = rs := List.take_of_length_le (by have := HN.out; omega)
      have hjz : ¬ (j : Int) < (n : Int) := by omega
      rw [e] at hP
      obtain ⟨_, _, _, _, q4⟩ := row5_cells hP
      have BF := Lib.hid (B1.out.trans (hbel.mono hs1))
      clear hP hbel e
      go_wp2
      go_ret2
      exact ⟨rfl, BF.out⟩
end Go.Proofs.Ytlihgcpiokaehaa
