/- The contracts of place, restyle and wipe, where they do what painting wants. Conditions: a terminal and numbers in memory. -/
import Derived.Test.YtnbpkabnaipimaaGreatDoorVt
import Derived.Test.YtnbpkabnaipimaaGreatDoorNums
import Derived.Laws.IdiomCopy
import Derived.BigRegion
import Derived.Shelf.RegionOpenPlain
namespace Go.Proofs.YtnbpkabnaipimaaGreatDoor
open Go Go.RowKit Go.Lib

/-- A slice of numbers that lies outside of a set. -/
structure IntsF (F : Nat → Prop) (w : World) (b off : Nat) (l : List Int) : Prop where
  lt : b < w.heap.size
  out : ¬ F b
  cells : ∀ j z, l[j]? = some z → w.cell? ⟨b, off + j, none⟩ = some (.int .i64 z)

/-- One value of a terminal's object is written. -/
theorem trm_put {w : World} {p : Nat} {F : Nat → Prop} {r c : Nat} {s : Scr} {wt : List Int} (h : Trm w p F r c s wt) (s' : Scr) (i : Nat) (v : Value) (hv : ∀ g gk x, (scrV r c g gk s x).set i v = scrV r c g gk s' x) (hi : Inv wd okR r c s') (hgg : s'.g = s.g) : Trm (w.setCell ⟨p, i, none⟩ v) p F r c s' wt := by
  obtain ⟨g, gk, a, n, k, hg, hgp, hgk, hT, ho, hw⟩ := h.mem
  have hb : ∀ j, j ≠ p → (w.setCell ⟨p, i, none⟩ v).heap[j]? = w.heap[j]? := fun j hj => Below.heap_setCell w _ v j hj
  have hs : w.heap.size ≤ (w.setCell ⟨p, i, none⟩ v).heap.size := (But1.set p i w v).size
  refine ⟨h.r1, h.r60, h.c1, h.c60, hi, h.pF, fun k hk => Nat.lt_of_lt_of_le (h.lt k hk) hs, h.top, g, gk, a, n, k, hg, hgp, hgk, ?_, by rw [hgg]; exact own_block ho (hb g hgp), hw.stay hs fun j _ hj _ => hb j hj⟩
  rw [← hv]
  exact hT.set i v
theorem But1.alloc {p : Nat} {a b : World} (h : But1 p a b) (hp : p ≤ b.heap.size) (o : Obj) : But1 p a (b.alloc o) := h.trans (But1.of ((Below.refl _ _).alloc (Nat.le_refl _) o) hp)
theorem But1.drew {p : Nat} {a b : World} (h : But1 p a b) (hp : p ≤ b.heap.size) : But1 p a b.drew := h.trans (But1.of (Below.refl _ _).drew hp)
theorem Trm.below {w w' : World} {p : Nat} {F : Nat → Prop} {r c : Nat} {s : Scr} {wt : List Int} (h : Trm w p F r c s wt) (hb : Below w.heap.size w w') : Trm w' p F r c s wt := h.stay hb.size fun k hk => hb.block k (h.lt k hk)

/-- What waits still waits beside a new grid. -/
theorem Waits.anew {F F' : Nat → Prop} {w w' : World} {p g g' : Nat} {a : Option Addr} {n k : Nat} {wt : List Int} (h : Waits F w p g a n k wt) (hb : But1 p w w') (hg' : w.heap.size ≤ g') (hF : ∀ j, F j → F' j) : Waits F' w' p g' a n k wt := by
  obtain ⟨hby, hown⟩ := h
  obtain ⟨a', c'', e, b2, b3, b4⟩ := hby
  cases e
  refine ⟨⟨a, k, rfl, b2, b3, b4.1, ?_⟩, fun x hx => ?_⟩
  · rcases b4.2 with h0 | ⟨b, off, rfl, hlt, hc⟩
    · exact .inl h0
    · exact .inr ⟨b, off, rfl, Nat.lt_of_lt_of_le hlt hb.size, fun j z hz => (World.cell?_of_block (w := w) (hb.block b hlt (hown _ rfl).2.1)).trans (hc j z hz)⟩
  · obtain ⟨o1, o2, o3, o4⟩ := hown x hx
    exact ⟨hF _ o1, o2, by omega, Nat.lt_of_lt_of_le o4 hb.size⟩

set_option maxHeartbeats 4000000 in
set_option maxRecDepth 20000 in
/-- place, of a row and of column 1. -/
theorem placeT (p : Nat) (F : Nat → Prop) (r c : Nat) (s : Scr) (wt : List Int) (B k b off cap : Nat) (w : World) (h : Trm w p F r c s wt) (hFB : ∀ j, F j → B ≤ j) (hk : k < r) (hI : IntsF F w b off [(k : Int) + 1, 1]) :
    Calls Tryz.prog 70 #[.pointer (some ⟨p, 0, none⟩), .slice (some ⟨b, off, none⟩) 2 cap] w fun e w' => e = .returned (.tuple #[]) ∧ Turned p F r c ⟨s.g, k, 0, s.st⟩ wt B w w' := by
  have hr60 := h.r60
  have hc60 := h.c60
  have hc1 := h.c1
  have BA := Lib.hid (show Below w.heap.size w (w.alloc (Obj.cells #[.int .i64 ((k : Int) + 1), .int .i64 1] 119)) from (Below.refl _ _).alloc (Nat.le_refl _) _)
  have hrun : (Builtin.copy_ #[106, 106] 3 #[.slice (some ⟨w.heap.size, 0, none⟩) 2 2, .slice (some ⟨b, off, none⟩) 2 cap]).run Tryz.prog (w.alloc (Obj.cells #[.int .i64 1, .int .i64 1] 119)) = .ok (goInt 2) (w.alloc (Obj.cells #[.int .i64 ((k : Int) + 1), .int .i64 1] 119)) := by
    have := run_copy_cells (P := Tryz.prog) (w.alloc (Obj.cells #[.int .i64 1, .int .i64 1] 119)) 106 106 3 3 w.heap.size 0 2 2 ⟨b, off, none⟩ 2 cap [.int .i64 ((k : Int) + 1), .int .i64 1] Tryz.underlying106 (by kernel_rfl) rfl (fun j v hj => ?_) (fun j hj => ?_) (fun j hj => ?_) (by intro v hv; simp at hv; rcases hv with rfl | rfl <;> rfl)
    · rw [this]
      simp only [World.setCells]
      go_simp
    · rw [Addr.add_lit]
      refine Lib.cell?_alloc_some _ ?_
      match j, hj with
      | 0, hj => cases hj; exact hI.cells 0 _ rfl
      | 1, hj => cases hj; exact hI.cells 1 _ rfl
    · have : j < 2 := hj
      match j, this with
      | 0, _ | 1, _ => go_simp
    · have : j < 2 := hj
      match j, this with
      | 0, _ | 1, _ => go_simp
  have e0 : max (1 : Int) (min ((k : Int) + 1) (r : Int)) - 1 = (k : Int) := by omega
  have e1 : max (1 : Int) (min 1 (c : Int)) - 1 = 0 := by omega
  have hwk : IntKind.i64.wrap (k : Int) = (k : Int) := IntWalk.i64_in _ (by omega)
  have hplt := h.lt p h.pF
  have hp3 := h.pF
  have hi := h.inv
  have t1 := trm_put h ⟨s.g, k, s.col, s.st⟩ 3 (.int .i64 k) (fun _ _ _ => rfl) ⟨hi.rows, hi.len, hi.ok, hk, hi.col, hi.st⟩ rfl
  have t2 := Lib.hid (trm_put t1 ⟨s.g, k, 0, s.st⟩ 4 (.int .i64 0) (fun _ _ _ => rfl) ⟨hi.rows, hi.len, hi.ok, hk, Nat.zero_le _, hi.st⟩ rfl)
  have b2 := Lib.hid ((But1.set p 3 w (.int .i64 k)).trans (But1.set p 4 _ (.int .i64 0)))
  obtain ⟨g, gk, a, n, kk, hg, hgp, hgk, hT, ho, hw⟩ := h.mem
  obtain ⟨c0, k0⟩ := hT 0 _ rfl
  obtain ⟨c1, k1⟩ := hT 1 _ rfl
  obtain ⟨c3, k3⟩ := hT 3 _ rfl
  obtain ⟨c4, k4⟩ := hT 4 _ rfl
  clear h hT ho hw t1 hi hI BA
  go_enter Tryz.func70, Tryz.ntmps70
  go_wp2
  go_region_law (first | fail)
  all_goals
    go_wp2_with fail
    go_region_law (first | fail)
  all_goals
    go_wp2
    go_end0
    rw [show IntKind.i64.wrap (0 : Int) = 0 from rfl]
    exact ⟨rfl, F, t2.out.below (((Below.refl _ _).alloc (Nat.le_refl _) _).drew).drew, fun _ h => .inl h, (b2.out.trans (But1.of (((Below.refl _ _).alloc (Nat.le_refl _) _).drew).drew (Nat.le_trans (Nat.le_of_lt hplt) b2.out.size))).only hp3 (hFB p hp3)⟩

set_option maxHeartbeats 4000000 in
set_option maxRecDepth 20000 in
/-- wipe, of 2. -/
theorem wipeT (p : Nat) (F : Nat → Prop) (r c : Nat) (s : Scr) (wt : List Int) (B b off cap : Nat) (w : World) (h : Trm w p F r c s wt) (hFB : ∀ j, F j → B ≤ j) (hI : IntsF F w b off [2]) :
    Calls Tryz.prog 72 #[.pointer (some ⟨p, 0, none⟩), .slice (some ⟨b, off, none⟩) 1 cap] w fun e w' => e = .returned (.tuple #[]) ∧ Turned p F r c ⟨clearG s.g, s.row, s.col, s.st⟩ wt B w w' := by
  have d0 := hI.cells 0 2 rfl
  rw [Nat.add_zero] at d0
  have hm36 : r * c ≤ 3600 := Nat.mul_le_mul h.r60 h.c60
  have hm1 : 1 ≤ r * c := Nat.mul_pos h.r1 h.c1
  have hplt := h.lt p h.pF
  have hpF := h.pF
  have HH := Lib.hid h
  obtain ⟨g, gk, a, n, kk, hg, hgp, hgk, hT, ho, hw⟩ := h.mem
  have HT := Lib.hid hT
  have HW := Lib.hid hw
  have BL := Lib.hid (fun W => blankAt r c (r * c) W hm1 rfl hm36)
  obtain ⟨c0, k0⟩ := hT 0 _ rfl
  obtain ⟨c1, k1⟩ := hT 1 _ rfl
  clear h hT ho hw hI
  unfold scrV at HT
  go_enter Tryz.func72, Tryz.ntmps72
  go_wp2
  go_region_with (go_at_call 38; (with_reducible refine (BL.out _).mono ?_); rintro e w1 ⟨g', rfl, hg', hgh, hb⟩; have HB := Lib.hid (Below.trans (a := w) (Below.refl _ w).drew hb); have HG := Lib.hid hgh; have hs1 := HB.out.size; have T1 := HT.out.below HB.out; obtain ⟨t0, k0⟩ := T1 0 _ rfl; obtain ⟨t1, k1⟩ := T1 1 _ rfl; obtain ⟨t2, k2⟩ := T1 2 _ rfl; have HT1 := Lib.hid T1; clear T1 hb hgh)
  all_goals
    have hgs : g' < w1.heap.size := lt_of_block HG.out
    have hgp' : g' ≠ p := by have : w.heap.size ≤ g' := hg'; omega
    have hT3 := ((HT1.out.set 0 (.int .i64 r)).set 1 (.int .i64 c)).set 2 (.slice (some ⟨g', 0, none⟩) (r * c) (r * c))
    have hB3 := (((But1.set p 0 w1 (.int .i64 r)).trans (But1.set p 1 _ (.int .i64 c))).trans (But1.set p 2 _ (.slice (some ⟨g', 0, none⟩) (r * c) (r * c))))
    have hB4 := (But1.of HB.out (Nat.le_of_lt hplt)).trans hB3
    have hG3 := (hB3.block g' hgs hgp').trans HG.out
    have hi := Does.keeps wd okR okR_space HH.out.inv (.clear s)
    have HE := Lib.hid (show Turned p F r c ⟨clearG s.g, s.row, s.col, s.st⟩ wt B w _ from ⟨fun k => F k ∨ (w.heap.size ≤ k ∧ k < (((w1.setCell ⟨p, 0, none⟩ (.int .i64 r)).setCell ⟨p, 1, none⟩ (.int .i64 c)).setCell ⟨p, 2, none⟩ (.slice (some ⟨g', 0, none⟩) (r * c) (r * c))).heap.size),
      ⟨HH.out.r1, HH.out.r60, HH.out.c1, HH.out.c60, hi, .inl hpF, fun k hk => hk.elim (fun h' => Nat.lt_of_lt_of_le (HH.out.lt k h') hB4.size) (fun h' => h'.2), fun k hk => hk.elim (HH.out.top k) (fun h' => by have := HH.out.top p hpF; omega), g', r * c, a, n, kk, .inr ⟨hg', lt_of_block hG3⟩, hgp', Nat.le_refl _, hT3, by
        rw [show (Scr.mk (clearG s.g) s.row s.col s.st).g = clearG s.g from rfl, gclear HH.out.inv.len, HH.out.inv.rows]
        exact own_of (Nat.zero_le _) (by simp) (by omega) hG3, HW.out.anew hB4 hg' (fun _ h => .inl h)⟩, fun k hk => hk.elim .inl (fun h' => .inr h'.1), hB4.only hpF (hFB p hpF)⟩)
    clear hT3 hB3 hB4 hG3 hi
    go_end0
    exact ⟨rfl, HE.out⟩
end Go.Proofs.YtnbpkabnaipimaaGreatDoor
