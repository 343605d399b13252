/- A terminal in memory; the contracts of Size, New and Grid. Conditions: none but what they ask of their arguments. -/
import Derived.Test.YtnbpkabnaipimaaDoorVr
import Derived.Test.YtnbpkabnaipimaaDoorTerm
import Derived.Test.YtnbpkabnaipimaaDoorInv
import Derived.Test.YtnbpkabnaipimaaDoorPut
import Derived.Test.YtnbpkabnaipimaaDoorVb
import Derived.Deep.RegionWith
namespace Go.Proofs.YtnbpkabnaipimaaDoor
open Go Go.RowKit Go.Lib

/-- What an object of values holds. -/
def TAt (w : World) (p : Nat) (vs : List Value) : Prop := ∀ j v, vs[j]? = some v → w.cell? ⟨p, j, none⟩ = some v ∧ w.frozen? ⟨p, j, none⟩ = false
theorem TAt.of_block {w w' : World} {p : Nat} {vs : List Value} (h : TAt w p vs) (hb : w'.heap[p]? = w.heap[p]?) : TAt w' p vs := fun j v hv => by
  obtain ⟨h1, h2⟩ := h j v hv
  refine ⟨(World.cell?_of_block (w := w) hb).trans h1, ?_⟩
  unfold World.frozen? at h2 ⊢
  rw [show w'.heap[(⟨p, j, none⟩ : Addr).block]? = w.heap[(⟨p, j, none⟩ : Addr).block]? from hb]
  exact h2
theorem TAt.set {w : World} {p : Nat} {vs : List Value} (h : TAt w p vs) (i : Nat) (v : Value) : TAt (w.setCell ⟨p, i, none⟩ v) p (vs.set i v) := fun j u hu => by
  by_cases e : i = j
  · subst e
    have hl : i < vs.length := by
      have := (List.getElem?_eq_some_iff.1 hu).1
      simpa using this
    rw [List.getElem?_set_self hl] at hu
    cases hu
    obtain ⟨h1, h2⟩ := h i _ (List.getElem?_eq_getElem hl)
    exact ⟨World.cell?_setCell_same' _ _ _ (by rw [h1]; rfl), by rw [World.frozen?_setCell]; exact h2⟩
  · rw [List.getElem?_set_ne e] at hu
    obtain ⟨h1, h2⟩ := h j u hu
    exact ⟨(World.cell?_setCell_other _ _ _ _ (fun h => e (by cases h; rfl))).trans h1, by rw [World.frozen?_setCell]; exact h2⟩
theorem TAt.other {w : World} {p : Nat} {vs : List Value} (h : TAt w p vs) {a : Addr} (ha : a.block ≠ p) (v : Value) : TAt (w.setCell a v) p vs :=
  h.of_block (Below.heap_setCell w a v p (fun e => ha e.symm))
theorem TAt.lt {w : World} {p : Nat} {v : Value} {vs : List Value} (h : TAt w p (v :: vs)) : p < w.heap.size := block_lt_of_cell (h 0 v rfl).1
theorem TAt.below {w w' : World} {p : Nat} {v : Value} {vs : List Value} (h : TAt w p (v :: vs)) (hb : Below w.heap.size w w') : TAt w' p (v :: vs) := h.of_block (hb.block p h.lt)

/-- All blocks but one are as they were. -/
structure But1 (p : Nat) (w w' : World) : Prop where
  size : w.heap.size ≤ w'.heap.size
  block : ∀ k, k < w.heap.size → k ≠ p → w'.heap[k]? = w.heap[k]?
  low : Below p w w'
theorem But1.of {p : Nat} {w w' : World} (h : Below w.heap.size w w') (hp : p ≤ w.heap.size) : But1 p w w' := ⟨h.size, fun k hk _ => h.block k hk, h.mono hp⟩
theorem But1.trans {p : Nat} {a b c : World} (h : But1 p a b) (k : But1 p b c) : But1 p a c := ⟨Nat.le_trans h.size k.size, fun i hi hn => (k.block i (Nat.lt_of_lt_of_le hi h.size) hn).trans (h.block i hi hn), h.low.trans k.low⟩
theorem But1.set (p i : Nat) (w : World) (v : Value) : But1 p w (w.setCell ⟨p, i, none⟩ v) := by
  have h := (Below.refl p w).setCell (p := ⟨p, i, none⟩) (Nat.le_refl _) v
  exact ⟨h.size, fun k _ hn => Below.heap_setCell w _ v k hn, h⟩

/-- The values of a terminal. -/
def scrV (r c g gk : Nat) (s : Scr) (wv : Value) : List Value := [.int .i64 r, .int .i64 c, .slice (some ⟨g, 0, none⟩) (r * c) gk, .int .i64 s.row, .int .i64 s.col, .int .i64 s.st, wv]

theorem own_of {w : World} {B g m : Nat} {l : List Cl} (hB : B ≤ g) (hl : l.length = m) (hm : m ≤ 100000) (h : w.heap[g]? = some (.cells (flat l).toArray 47 (0, 0))) : w.ownsRow B 47 2 (.slice (some ⟨g, 0, none⟩) m m) m (flat l) :=
  ⟨by rw [flat_len, hl], .inr ⟨g, m, _, rfl, hB, h, Nat.le_refl _, by unfold maxLen; omega, by simp [flat_len, hl], by rw [show (flat l).toArray.toList = flat l from rfl, List.take_of_length_le (by rw [flat_len, hl]; exact Nat.le_refl _)]⟩⟩

/-- All seven values are written. -/
theorem set7 {w : World} {p : Nat} {u0 u1 u2 u3 u4 u5 u6 : Value} (v0 v1 v2 v3 v4 v5 v6 : Value) (h : TAt w p [u0, u1, u2, u3, u4, u5, u6]) :
    TAt (((((((w.setCell ⟨p, 0, none⟩ v0).setCell ⟨p, 1, none⟩ v1).setCell ⟨p, 2, none⟩ v2).setCell ⟨p, 3, none⟩ v3).setCell ⟨p, 4, none⟩ v4).setCell ⟨p, 5, none⟩ v5).setCell ⟨p, 6, none⟩ v6) p [v0, v1, v2, v3, v4, v5, v6] ∧
    But1 p w (((((((w.setCell ⟨p, 0, none⟩ v0).setCell ⟨p, 1, none⟩ v1).setCell ⟨p, 2, none⟩ v2).setCell ⟨p, 3, none⟩ v3).setCell ⟨p, 4, none⟩ v4).setCell ⟨p, 5, none⟩ v5).setCell ⟨p, 6, none⟩ v6) :=
  ⟨((((((h.set 0 v0).set 1 v1).set 2 v2).set 3 v3).set 4 v4).set 5 v5).set 6 v6,
    ((((((But1.set p 0 w v0).trans (But1.set p 1 _ v1)).trans (But1.set p 2 _ v2)).trans (But1.set p 3 _ v3)).trans (But1.set p 4 _ v4)).trans (But1.set p 5 _ v5)).trans (But1.set p 6 _ v6)⟩
set_option maxHeartbeats 4000000 in
set_option maxRecDepth 20000 in
/-- Size, of any terminal in memory. -/
theorem sizeAt (p r c m : Nat) (v0 v1 v2 v3 v4 v5 : Value) (wa : Option Addr) (wn wc : Nat) (w : World) (h : TAt w p [v0, v1, v2, v3, v4, v5, .slice wa wn wc]) (h1 : 1 ≤ r) (h2 : r ≤ 60) (h3 : 1 ≤ c) (h4 : c ≤ 60) (hm : m = r * c) :
    Calls Tryd.prog 12 #[.pointer (some ⟨p, 0, none⟩), .int .i64 r, .int .i64 c] w fun e w' => ∃ g, e = .returned (.int .i64 0) ∧ w.heap.size ≤ g ∧ TAt w' p [.int .i64 r, .int .i64 c, .slice (some ⟨g, 0, none⟩) m m, .int .i64 0, .int .i64 0, .int .i64 0, .slice wa wn wc] ∧ w'.heap[g]? = some (.cells (flat (List.replicate m blank)).toArray 47 (0, 0)) ∧ But1 p w w' := by
  have S1 := Lib.hid (fun W => isSide (r : Int) W)
  have S2 := Lib.hid (fun W => isSide (c : Int) W)
  rw [show sideB (r : Int) = true by simp [sideB]; omega] at S1
  rw [show sideB (c : Int) = true by simp [sideB]; omega] at S2
  have hm1 : 1 ≤ m := by rw [hm]; exact Nat.mul_pos (by omega) (by omega)
  have hm36 : m ≤ 3600 := by rw [hm]; exact Nat.mul_le_mul h2 h4
  have BL := Lib.hid (fun W => blankAt r c m W hm1 hm hm36)
  have hp := h.lt
  have c6 := (h 6 _ rfl).1
  have HT := Lib.hid h
  clear h hm
  go_enter Tryd.func12, Tryd.ntmps12
  go_wp2_with (first
    | (go_at_call 13; (with_reducible refine (S1.out _).mono ?_); rintro e w' ⟨rfl, rfl⟩)
    | (go_at_call 13; (with_reducible refine (S2.out _).mono ?_); rintro e w' ⟨rfl, rfl⟩))
  go_region_with (go_at_call 23; (with_reducible refine (BL.out _).mono ?_); rintro e w1 ⟨g, rfl, hg, hgh, hb⟩; have HB := Lib.hid (Below.trans (a := w) (Below.refl _ w).drew hb); have HG := Lib.hid hgh; have hs1 := HB.out.size; have T1 := HT.out.below HB.out; obtain ⟨t0, k0⟩ := T1 0 _ rfl; obtain ⟨t1, k1⟩ := T1 1 _ rfl; obtain ⟨t2, k2⟩ := T1 2 _ rfl; obtain ⟨t3, k3⟩ := T1 3 _ rfl; obtain ⟨t4, k4⟩ := T1 4 _ rfl; obtain ⟨t5, k5⟩ := T1 5 _ rfl; obtain ⟨t6, k6⟩ := T1 6 _ rfl; have HT1 := Lib.hid T1; clear T1 hb hgh)
  all_goals
    obtain ⟨hT, hB⟩ := set7 (.int .i64 r) (.int .i64 c) (.slice (some ⟨g, 0, none⟩) m m) (.int .i64 0) (.int .i64 0) (.int .i64 0) (.slice wa wn wc) HT1.out
    have hgs : g < w1.heap.size := lt_of_block HG.out
    have HGG := Lib.hid ((hB.block g hgs (by have : w.heap.size ≤ g := hg; omega)).trans HG.out)
    have HTT := Lib.hid hT
    have HBB := Lib.hid ((But1.of HB.out (Nat.le_of_lt hp)).trans hB)
    clear hT hB
    go_wp2
    go_ret
    exact ⟨g, rfl, hg, HTT.out, HGG.out, HBB.out⟩

theorem blankG_flat (r c : Nat) : (blankG r c).flatten = List.replicate (r * c) blank := by
  unfold blankG
  induction r with
  | zero => simp
  | succ r ih => rw [List.replicate_succ, List.flatten_cons, ih, List.replicate_append_replicate, Nat.succ_mul, Nat.add_comm]
theorem blank_inv {r c : Nat} (hr : 1 ≤ r) : Inv wd okR r c ⟨blankG r c, 0, 0, 0⟩ := by
  refine ⟨by simp [blankG], fun x hx => ?_, fun x hx => ?_, hr, Nat.zero_le _, show (0 : Int) ≤ 0 ∧ (0 : Int) ≤ 7 from by decide⟩
  · have := List.eq_of_mem_replicate hx
    simp [this]
  · have := List.eq_of_mem_replicate hx
    rw [this]
    exact RowOk.blanks wd okR okR_space c

/-- Bytes that wait: their memory is the terminal's own. -/
structure Waits (F : Nat → Prop) (w : World) (p g : Nat) (a : Option Addr) (n k : Nat) (wt : List Int) : Prop where
  bytes : BytesV w (.slice a n k) wt
  own : ∀ x, a = some x → F x.block ∧ x.block ≠ p ∧ x.block ≠ g ∧ x.block < w.heap.size
/-- A terminal in memory. -/
structure Trm (w : World) (p : Nat) (F : Nat → Prop) (r c : Nat) (s : Scr) (wt : List Int) : Prop where
  r1 : 1 ≤ r
  r60 : r ≤ 60
  c1 : 1 ≤ c
  c60 : c ≤ 60
  inv : Inv wd okR r c s
  pF : F p
  lt : ∀ k, F k → k < w.heap.size
  top : ∀ k, F k → 10 ≤ k
  mem : ∃ g gk a n k, F g ∧ g ≠ p ∧ r * c ≤ gk ∧ TAt w p (scrV r c g gk s (.slice a n k)) ∧ w.ownsRow 0 47 2 (.slice (some ⟨g, 0, none⟩) (r * c) gk) (r * c) (flat s.g.flatten) ∧ Waits F w p g a n k wt
theorem own_block {w w' : World} {B e size n c g : Nat} {xs : List Value} (h : w.ownsRow B e size (.slice (some ⟨g, 0, none⟩) n c) n xs) (hb : w'.heap[g]? = w.heap[g]?) : w'.ownsRow B e size (.slice (some ⟨g, 0, none⟩) n c) n xs := by
  refine ⟨h.1, ?_⟩
  rcases h.2 with h0 | ⟨g', cap, cur, he, hB, hg, hr⟩
  · exact .inl h0
  · cases he
    exact .inr ⟨g, c, cur, rfl, hB, hb.trans hg, hr⟩
theorem Waits.stay {F : Nat → Prop} {w w' : World} {p g : Nat} {a : Option Addr} {n k : Nat} {wt : List Int} (h : Waits F w p g a n k wt) (hs : w.heap.size ≤ w'.heap.size) (hF : ∀ j, F j → j ≠ p → j ≠ g → w'.heap[j]? = w.heap[j]?) : Waits F w' p g a n k wt := by
  obtain ⟨⟨a', c', e, h2, h3, h4⟩, ho⟩ := h
  cases e
  refine ⟨⟨a, k, rfl, h2, h3, h4.1, ?_⟩, fun x hx => ⟨(ho x hx).1, (ho x hx).2.1, (ho x hx).2.2.1, Nat.lt_of_lt_of_le (ho x hx).2.2.2 hs⟩⟩
  rcases h4.2 with h0 | ⟨b, off, rfl, hlt, hc⟩
  · exact .inl h0
  · obtain ⟨o1, o2, o3, _⟩ := ho _ rfl
    exact .inr ⟨b, off, rfl, Nat.lt_of_lt_of_le hlt hs, fun j z hz => (World.cell?_of_block (w := w) (hF b o1 o2 o3)).trans (hc j z hz)⟩
theorem Waits.mono {F F' : Nat → Prop} {w : World} {p g : Nat} {a : Option Addr} {n k : Nat} {wt : List Int} (h : Waits F w p g a n k wt) (hF : ∀ j, F j → F' j) : Waits F' w p g a n k wt :=
  ⟨h.bytes, fun x hx => ⟨hF _ (h.own x hx).1, (h.own x hx).2⟩⟩
theorem Trm.stay {w w' : World} {p : Nat} {F : Nat → Prop} {r c : Nat} {s : Scr} {wt : List Int} (h : Trm w p F r c s wt) (hs : w.heap.size ≤ w'.heap.size) (hF : ∀ k, F k → w'.heap[k]? = w.heap[k]?) : Trm w' p F r c s wt := by
  obtain ⟨g, gk, a, n, k, h1, h2, h3, h4, h5, h6⟩ := h.mem
  exact ⟨h.r1, h.r60, h.c1, h.c60, h.inv, h.pF, fun k hk => Nat.lt_of_lt_of_le (h.lt k hk) hs, h.top, g, gk, a, n, k, h1, h2, h3, h4.of_block (hF p h.pF), own_block h5 (hF g h1), h6.stay hs fun j hj _ _ => hF j hj⟩

theorem trm_new {w : World} {p r c g : Nat} {F : Nat → Prop} {a : Option Addr} {n k : Nat} {wt : List Int} (h1 : 1 ≤ r) (h2 : r ≤ 60) (h3 : 1 ≤ c) (h4 : c ≤ 60) (hp : F p) (hlt : ∀ k, F k → k < w.heap.size) (htop : ∀ k, F k → 10 ≤ k) (hg : F g) (hgp : g ≠ p)
    (hT : TAt w p [.int .i64 r, .int .i64 c, .slice (some ⟨g, 0, none⟩) (r * c) (r * c), .int .i64 0, .int .i64 0, .int .i64 0, .slice a n k]) (hh : w.heap[g]? = some (.cells (flat (List.replicate (r * c) blank)).toArray 47 (0, 0))) (hw : Waits F w p g a n k wt) :
    Trm w p F r c ⟨blankG r c, 0, 0, 0⟩ wt :=
  ⟨h1, h2, h3, h4, blank_inv h1, hp, hlt, htop, g, r * c, a, n, k, hg, hgp, Nat.le_refl _, hT, by
    rw [blankG_flat]
    have := Nat.mul_le_mul h2 h4
    exact own_of (Nat.zero_le _) (by simp) (by omega) hh, hw⟩

set_option maxHeartbeats 2000000 in
/-- New: a terminal of spaces, in new memory. -/
theorem newAt (r c : Nat) (w : World) (hG : 10 ≤ w.heap.size) (h1 : 1 ≤ r) (h2 : r ≤ 60) (h3 : 1 ≤ c) (h4 : c ≤ 60) :
    Calls Tryd.prog 6 #[.int .i64 r, .int .i64 c] w fun e w' => ∃ p F, e = .returned (.tuple #[.pointer (some ⟨p, 0, none⟩), .int .i64 0]) ∧ Trm w' p F r c ⟨blankG r c, 0, 0, 0⟩ [] ∧ (∀ k, F k → w.heap.size ≤ k) ∧ Below w.heap.size w w' := by
  have SZ := Lib.hid (sizeAt w.heap.size r c (r * c) (.int .i64 0) (.int .i64 0) (.slice none 0 0) (.int .i64 0) (.int .i64 0) (.int .i64 0) none 0 0 (w.alloc (Obj.cells #[.int .i64 0, .int .i64 0, .slice none 0 0, .int .i64 0, .int .i64 0, .int .i64 0, .slice none 0 0] 50)) (fun j v hv => by
    match j, hv with
    | 0, hv | 1, hv | 2, hv | 3, hv | 4, hv | 5, hv | 6, hv => cases hv; constructor <;> go_simp) h1 h2 h3 h4 rfl)
  have BA := Lib.hid (show Below w.heap.size w (w.alloc (Obj.cells #[.int .i64 0, .int .i64 0, .slice none 0 0, .int .i64 0, .int .i64 0, .int .i64 0, .slice none 0 0] 50)) from (Below.refl _ _).alloc (Nat.le_refl _) _)
  go_enter Tryd.func6, Tryd.ntmps6
  go_wp2_with fail
  (with_reducible refine SZ.out.mono ?_)
  rintro e w1 ⟨g, rfl, hg, hT, hh, hb⟩
  have hg' : w.heap.size + 1 ≤ g := by simpa using hg
  have HT := Lib.hid hT
  have HH := Lib.hid hh
  have HB := Lib.hid (BA.out.trans hb.low)
  clear hT hh hb SZ hg
  go_wp2
  go_ret2
  refine ⟨w.heap.size, fun k => w.heap.size ≤ k ∧ k < w1.heap.size, rfl, trm_new h1 h2 h3 h4 ⟨Nat.le_refl _, HT.out.lt⟩ (fun k hk => hk.2) (fun k hk => Nat.le_trans hG hk.1) ⟨by omega, lt_of_block HH.out⟩ (by omega) HT.out HH.out ⟨⟨none, 0, rfl, Nat.le_refl _, .inl ⟨rfl, rfl, rfl⟩, rfl, .inl rfl⟩, fun x hx => by cases hx⟩, fun k hk => hk.1, HB.out⟩

/-- What a call leaves of a terminal. -/
def Turned (p : Nat) (F : Nat → Prop) (r c : Nat) (s : Scr) (wt : List Int) (B : Nat) (w w' : World) : Prop :=
  ∃ F', Trm w' p F' r c s wt ∧ (∀ k, F' k → F k ∨ w.heap.size ≤ k) ∧ Only F B w w'
theorem Only.trans {F F' : Nat → Prop} {B : Nat} {a b c : World} (h : Only F B a b) (k : Only F' B b c) (hF : ∀ k, F' k → F k ∨ a.heap.size ≤ k) : Only F B a c := by
  refine ⟨h.below.trans k.below, fun i hi hn => ?_⟩
  rw [k.rest i (Nat.lt_of_lt_of_le hi h.below.size) (fun h' => (hF i h').elim hn (fun h'' => by omega)), h.rest i hi hn]
theorem Turned.trans {p : Nat} {F F' : Nat → Prop} {r' c' : Nat} {s' : Scr} {wt' : List Int} {B : Nat} {a b d : World} (hF : ∀ k, F' k → F k ∨ a.heap.size ≤ k) (ho : Only F B a b) (k : Turned p F' r' c' s' wt' B b d) : Turned p F r' c' s' wt' B a d := by
  obtain ⟨G, h1, h2, h3⟩ := k
  exact ⟨G, h1, fun j hj => (h2 j hj).elim (hF j) (fun h => .inr (Nat.le_trans ho.below.size h)), ho.trans h3 hF⟩
/-- One block but its own is as it was: what But1 comes to. -/
theorem But1.only {p B : Nat} {F : Nat → Prop} {w w' : World} (h : But1 p w w') (hp : F p) (hB : B ≤ p) : Only F B w w' :=
  ⟨h.low.mono hB, fun k hk hn => h.block k hk (fun e => hn (by rw [e]; exact hp))⟩
theorem Trm.refl {w : World} {p : Nat} {F : Nat → Prop} {r c : Nat} {s : Scr} {wt : List Int} (h : Trm w p F r c s wt) (B : Nat) : Turned p F r c s wt B w w := ⟨F, h, fun _ hk => .inl hk, ⟨Below.refl _ _, fun _ _ _ => rfl⟩⟩

/-- Size. -/
theorem sizeT (p : Nat) (F : Nat → Prop) (r c r' c' : Nat) (s : Scr) (wt : List Int) (B : Nat) (w : World) (h : Trm w p F r c s wt) (h1 : 1 ≤ r') (h2 : r' ≤ 60) (h3 : 1 ≤ c') (h4 : c' ≤ 60) (hFB : ∀ k, F k → B ≤ k) :
    Calls Tryd.prog 12 #[.pointer (some ⟨p, 0, none⟩), .int .i64 r', .int .i64 c'] w fun e w' => ∃ F', e = .returned (.int .i64 0) ∧ Trm w' p F' r' c' ⟨blankG r' c', 0, 0, 0⟩ wt ∧ (∀ k, F' k → F k ∨ w.heap.size ≤ k) ∧ Only F B w w' := by
  obtain ⟨g, gk, a, n, k, hg, hgp, hgk, hT, ho, hw⟩ := h.mem
  refine (sizeAt p r' c' (r' * c') _ _ _ _ _ _ a n k w hT h1 h2 h3 h4 rfl).mono ?_
  rintro e w' ⟨g', rfl, hg', hT', hh, hb⟩
  have hp := h.lt p h.pF
  refine ⟨fun k => F k ∨ (w.heap.size ≤ k ∧ k < w'.heap.size), rfl, trm_new h1 h2 h3 h4 (.inl h.pF) (fun k hk => hk.elim (fun h' => Nat.lt_of_lt_of_le (h.lt k h') hb.size) (fun h' => h'.2)) (fun k hk => hk.elim (h.top k) (fun h' => by have := h.top p h.pF; omega)) (.inr ⟨hg', lt_of_block hh⟩) (by omega) hT' hh ?_, fun k hk => hk.elim .inl (fun h' => .inr h'.1), hb.only h.pF (hFB p h.pF)⟩
  obtain ⟨hby, hown⟩ := hw
  obtain ⟨a', c'', e, b2, b3, b4⟩ := hby
  cases e
  refine ⟨⟨a, k, rfl, b2, b3, b4.1, ?_⟩, fun x hx => ?_⟩
  · rcases b4.2 with h0 | ⟨b, off, rfl, hlt, hc⟩
    · exact .inl h0
    · exact .inr ⟨b, off, rfl, Nat.lt_of_lt_of_le hlt hb.size, fun j z hz => (World.cell?_of_block (w := w) (hb.block b hlt (hown _ rfl).2.1)).trans (hc j z hz)⟩
  · obtain ⟨o1, o2, o3, o4⟩ := hown x hx
    exact ⟨.inl o1, o2, by omega, Nat.lt_of_lt_of_le o4 hb.size⟩

theorem cloneC (g n c : Nat) (l : List Cl) (w : World) (hl : l.length = n) (hn : n ≤ 3600) (hc : CellsAt w g 0 l) :
    Calls Tryd.prog 22 #[.slice (some ⟨g, 0, none⟩) n c] w fun e w' => ∃ v, e = .returned v ∧ w'.ownsRow w.heap.size 47 2 v n (flat l) ∧ Below w.heap.size w w' := by
  obtain ⟨i0, hi, hz0, hz1, hz2⟩ := info_cut Tryd.infoC
  have HC := Lib.hid (show ∀ j u, (flat l)[j]? = some u → (w.alloc (Obj.cells #[] 47)).cell? ((⟨g, 0, none⟩ : Addr).add j) = some u from fun j u hu => Lib.cell?_alloc_some _ (by rw [Addr.add_lit]; exact hc j u hu))
  clear hc
  have hnil : ∀ w' : World, (binOp .eql 22 (.slice (some ⟨g, 0, none⟩) n c) (.slice none 0 0)).run Tryd.prog w' = .ok (.bool false) w' := fun w' => Lib.run_eql_slice_nil w' 22 47 (some ⟨g, 0, none⟩) n c 0 0 Tryd.underlying22
  have HL := Lib.hid (show (flat l).length = n * 2 by rw [flat_len, hl])
  go_enter Tryd.func22, Tryd.ntmps22
  go_wp2_with (at_builtin; refine wpList_append_own _ rfl _ _ 22 rfl w.heap.size 47 i0 _ 2 16 Tryd.underlying22 hi hz0 hz1 hz2 rfl (by decide) _ 0 [] rfl (World.ownsRow_lit w #[] 0 (Nat.le_refl _) (by unfold maxLen; omega) rfl) ⟨g, 0, none⟩ n c (flat l) rfl HL.out HC.out (flat_cells_one l) (by unfold maxLen; omega) (by omega) (by simp) ?_)
  intro v2 w2 own2 gr2 _
  have O2 := Lib.hid (show w2.ownsRow w.heap.size 47 2 v2 n (flat l) by have h := own2; simpa using h)
  have B2 := Lib.hid (show Below w.heap.size w w2 from ((Below.refl _ _).alloc (Nat.le_refl _) _).grown gr2 (by simp) (fun k hk => by simp [Value.ownBlock] at hk; omega))
  clear own2 gr2
  go_wp2
  go_ret
  exact ⟨_, rfl, O2.out, B2.out⟩
theorem own_cellsAt {w : World} {B g n c : Nat} {l : List Cl} (h : w.ownsRow B 47 2 (.slice (some ⟨g, 0, none⟩) n c) n (flat l)) : CellsAt w g 0 l := by
  intro j u hu
  have := h.cells (g := g) rfl j u hu
  rwa [Addr.add_lit] at this

set_option maxHeartbeats 2000000 in
/-- Grid: what a terminal shows, in new memory. -/
theorem gridT (p : Nat) (F : Nat → Prop) (r c : Nat) (s : Scr) (wt : List Int) (w : World) (h : Trm w p F r c s wt) :
    Calls Tryd.prog 11 #[.pointer (some ⟨p, 0, none⟩)] w fun e w' => ∃ a n k, e = .returned (GridV r c a n k) ∧ n = r * c ∧ n ≤ k ∧ w'.ownsRow w.heap.size 47 2 (.slice a n k) n (flat s.g.flatten) ∧ Below w.heap.size w w' := by
  obtain ⟨g, gk, a, n, k, hg, hgp, hgk, hT, ho, hw⟩ := h.mem
  have hglt := h.lt g hg
  have hplt := h.lt p h.pF
  obtain ⟨m, hm⟩ : ∃ m, m = r * c := ⟨_, rfl⟩
  have hm36 : m ≤ 3600 := by rw [hm]; exact Nat.mul_le_mul h.r60 h.c60
  have hfl : s.g.flatten.length = m := by rw [hm, glen h.inv.len, h.inv.rows]
  unfold scrV at hT
  rw [← hm] at hT ho ⊢
  have HM := Lib.hid hm
  obtain ⟨c0, _⟩ := hT 0 _ rfl
  obtain ⟨c1, _⟩ := hT 1 _ rfl
  obtain ⟨c2, _⟩ := hT 2 _ rfl
  have BA := Lib.hid (below2 w (Obj.cells #[.int .i64 0, .int .i64 0, .slice none 0 0] 24) (Obj.cells #[.int .i64 r, .int .i64 c, .slice (some ⟨g, 0, none⟩) m gk] 24))
  have CL := Lib.hid (cloneC g m gk s.g.flatten ((w.alloc (Obj.cells #[.int .i64 0, .int .i64 0, .slice none 0 0] 24)).alloc (Obj.cells #[.int .i64 r, .int .i64 c, .slice (some ⟨g, 0, none⟩) m gk] 24)) hfl hm36 ((own_cellsAt ho).below hglt BA.out))
  have HSZ := Lib.hid (show ((w.alloc (Obj.cells #[.int .i64 0, .int .i64 0, .slice none 0 0] 24)).alloc (Obj.cells #[.int .i64 r, .int .i64 c, .slice (some ⟨g, 0, none⟩) m gk] 24)).heap.size = w.heap.size + 2 by simp)
  clear h hT ho hw hfl hm
  go_enter Tryd.func11, Tryd.ntmps11
  go_wp2_with fail
  (with_reducible refine CL.out.mono ?_)
  rintro e w2 ⟨v, rfl, hown, hb⟩
  obtain ⟨a2, k2, rfl, hk2, hno, hrow⟩ := own_row hown
  have e0 : w2.cell? ⟨w.heap.size, 0, none⟩ = some (.int .i64 0) := (hb.cell (by rw [HSZ.out]; show w.heap.size < _; omega)).trans (by go_simp)
  have e1 : w2.cell? ⟨w.heap.size, 1, none⟩ = some (.int .i64 0) := (hb.cell (by rw [HSZ.out]; show w.heap.size < _; omega)).trans (by go_simp)
  have e2 : w2.cell? ⟨w.heap.size, 2, none⟩ = some (.slice none 0 0) := (hb.cell (by rw [HSZ.out]; show w.heap.size < _; omega)).trans (by go_simp)
  have f0 : w2.frozen? ⟨w.heap.size, 0, none⟩ = false := (hb.frozen (by rw [HSZ.out]; show w.heap.size < _; omega)).trans (by go_simp)
  have f1 : w2.frozen? ⟨w.heap.size, 1, none⟩ = false := (hb.frozen (by rw [HSZ.out]; show w.heap.size < _; omega)).trans (by go_simp)
  have f2 : w2.frozen? ⟨w.heap.size, 2, none⟩ = false := (hb.frozen (by rw [HSZ.out]; show w.heap.size < _; omega)).trans (by go_simp)
  have g0 : w2.cell? ⟨w.heap.size + 1, 0, none⟩ = some (.int .i64 r) := (hb.cell (by rw [HSZ.out]; show w.heap.size + 1 < _; omega)).trans (by go_simp)
  have g1 : w2.cell? ⟨w.heap.size + 1, 1, none⟩ = some (.int .i64 c) := (hb.cell (by rw [HSZ.out]; show w.heap.size + 1 < _; omega)).trans (by go_simp)
  have g2 : w2.cell? ⟨w.heap.size + 1, 2, none⟩ = some (.slice (some ⟨g, 0, none⟩) m gk) := (hb.cell (by rw [HSZ.out]; show w.heap.size + 1 < _; omega)).trans (by go_simp)
  have k2f : w2.frozen? ⟨w.heap.size + 1, 2, none⟩ = false := (hb.frozen (by rw [HSZ.out]; show w.heap.size + 1 < _; omega)).trans (by go_simp)
  have HO := Lib.hid hown
  have HB := Lib.hid (BA.out.trans (hb.mono (by rw [HSZ.out]; omega)))
  clear hb hown CL hno hrow c0 c1 c2
  go_wp2
  (try simp only [Exit.inBlock, Exit.then])
  refine bodyPost_ret (v := GridV r c a2 m k2) ?_ rfl ⟨a2, m, k2, rfl, rfl, hk2, ?_, ?_⟩
  · rw [results_cell1 rfl]
    go_simp
  · have hlt0 : w.heap.size < ((w.alloc (Obj.cells #[.int .i64 0, .int .i64 0, .slice none 0 0] 24)).alloc (Obj.cells #[.int .i64 r, .int .i64 c, .slice (some ⟨g, 0, none⟩) m gk] 24)).heap.size := by rw [HSZ.out]; omega
    have hlt1 : w.heap.size + 1 < ((w.alloc (Obj.cells #[.int .i64 0, .int .i64 0, .slice none 0 0] 24)).alloc (Obj.cells #[.int .i64 r, .int .i64 c, .slice (some ⟨g, 0, none⟩) m gk] 24)).heap.size := by rw [HSZ.out]; omega
    exact own_mono (ownsRow_setCell_below (ownsRow_setCell_below (ownsRow_setCell_below (ownsRow_setCell_below HO.out (a := ⟨w.heap.size + 1, 2, none⟩) (by exact hlt1) _) (a := ⟨w.heap.size, 0, none⟩) (by exact hlt0) _) (a := ⟨w.heap.size, 1, none⟩) (by exact hlt0) _) (a := ⟨w.heap.size, 2, none⟩) (by exact hlt0) _) (by rw [HSZ.out]; omega)
  · exact (((HB.out.setCell (by exact Nat.le_succ _) _).setCell (by exact Nat.le_refl _) _).setCell (by exact Nat.le_refl _) _).setCell (by exact Nat.le_refl _) _
end Go.Proofs.YtnbpkabnaipimaaDoor
