/- What the world holds of the program's variables (Wd); the contracts of numbers from 0 to 99, appended. Conditions: the listed variables hold what their initialisers lay. -/
import Derived.Test.YtnbpkabnaipimaaGreatDoorFirst
import Derived.Test.YtnbpkabnaipimaaGreatDoorNumber
import Derived.Test.YtnbpkabnaipimaaGreatDoorVsh
import Derived.Lib.LaidTab
import Derived.Lib.AppendIntMem
namespace Go.Proofs.YtnbpkabnaipimaaGreatDoor
open Go Go.RowKit Go.Lib

/-- What the world holds of the variables. -/
structure Wd (w : World) : Prop where
  size : 10 ≤ w.heap.size
  tab : Tab w
  utf : Lib.Utf8Tabs 2 3 w
  sty : w.cell? ⟨0, 0, none⟩ = some (.int .i64 7) ∧ w.cell? ⟨0, 1, none⟩ = some (.int .i64 4) ∧ w.cell? ⟨0, 2, none⟩ = some (.int .i64 1)
  pow : Lib.TabIs Tryz.prog w "internal/strconv.uint64pow10" .u64 Lib.pow10Tab
  max : ∃ m, w.cell? ⟨7, 0, none⟩ = some (.int .i64 m)
  err : ∃ te pe, w.cell? ⟨8, 0, none⟩ = some (.iface te pe)
theorem gPow : Tryz.prog.globalNamed "internal/strconv.uint64pow10" = some 4 := by kernel_rfl
theorem pow_of {w w' : World} (h : Lib.TabIs Tryz.prog w "internal/strconv.uint64pow10" .u64 Lib.pow10Tab) (hb : w'.heap[(4 : Nat)]? = w.heap[(4 : Nat)]?) : Lib.TabIs Tryz.prog w' "internal/strconv.uint64pow10" .u64 Lib.pow10Tab := by
  unfold Lib.TabIs World.var? at h ⊢
  rw [gPow] at h ⊢
  simp only [Option.bind_some] at h ⊢
  rw [hb]
  exact h
theorem Wd.of {w w' : World} (h : Wd w) (hs : w.heap.size ≤ w'.heap.size) (hb : ∀ k, k < 10 → w'.heap[k]? = w.heap[k]?) : Wd w' := by
  have hc : ∀ (k j : Nat), k < 10 → w'.cell? ⟨k, j, none⟩ = w.cell? ⟨k, j, none⟩ := fun k j hk => World.cell?_of_block (w := w) (hb k hk)
  refine ⟨Nat.le_trans h.size hs, fun j v hv => (hc _ _ (by decide)).trans (h.tab j v hv), ⟨fun c hcc => (hc _ _ (by decide)).trans (h.utf.1 c hcc), fun i hi => ⟨(hc _ _ (by decide)).trans (h.utf.2 i hi).1, (hc _ _ (by decide)).trans (h.utf.2 i hi).2⟩⟩, ⟨(hc _ _ (by decide)).trans h.sty.1, (hc _ _ (by decide)).trans h.sty.2.1, (hc _ _ (by decide)).trans h.sty.2.2⟩, pow_of h.pow (hb _ (by decide)), ?_, ?_⟩
  · obtain ⟨m, hm⟩ := h.max
    exact ⟨m, (hc _ _ (by decide)).trans hm⟩
  · obtain ⟨te, pe, hm⟩ := h.err
    exact ⟨te, pe, (hc _ _ (by decide)).trans hm⟩
theorem Wd.below {w w' : World} (h : Wd w) (hb : Below w.heap.size w w') : Wd w' := h.of hb.size fun k hk => hb.block k (Nat.lt_of_lt_of_le hk h.size)
theorem Wd.below' {w w' : World} {B : Nat} (h : Wd w) (hB : 10 ≤ B) (hb : Below B w w') : Wd w' := h.of hb.size fun k hk => hb.block k (Nat.lt_of_lt_of_le hk hB)

theorem itoa_nums (n : Int) (h0 : 0 ≤ n) (h1 : n ≤ 99) : (Lib.itoa n).map (fun b => (b.toNat : Int)) = digits n := by
  have key : ∀ k : Fin 100, (Lib.itoa (k.val : Int)).map (fun b => (b.toNat : Int)) = digits (k.val : Int) := by decide +kernel
  obtain ⟨k, rfl⟩ := Int.eq_ofNat_of_zero_le h0
  exact key ⟨k, by omega⟩
theorem itoa_digits (n : Int) (h0 : 0 ≤ n) (h1 : n ≤ 99) : Lib.byteCells (Lib.itoa n) = byV (digits n) := by
  rw [← itoa_nums n h0 h1]
  simp [Lib.byteCells, byV]
theorem itoa_len (n : Int) (h0 : 0 ≤ n) (h1 : n ≤ 99) : (Lib.itoa n).length = (digits n).length := by
  rw [← itoa_nums n h0 h1, List.length_map]
/-- strconv.AppendInt, of a number from 0 to 99, to base 10. -/
theorem appendInt (B : Nat) (v : Value) (m : Nat) (xs : List Value) (n : Int) (h0 : 0 ≤ n) (h1 : n ≤ 99) (w : World) (hW : Wd w) (hown : w.ownsRow B 5 1 v m xs) (hm : m + 21 ≤ 140737488355328) (hB : B ≤ w.heap.size) (hB10 : 10 ≤ B) :
    Calls Tryz.prog 27 #[v, .int .i64 n, .int .i64 10] w fun e w' => ∃ v', e = .returned v' ∧ w'.ownsRow B 5 1 v' (m + (digits n).length) (xs ++ byV (digits n)) ∧ Below B w w' := by
  refine (Any.strconv_AppendInt_10 Tryz.laysM176 B m n (by omega) (by omega) v xs w hown hB hm (fun w' hb => pow_of hW.pow (hb.block _ (Nat.lt_of_lt_of_le (by decide) hB10)))).mono ?_
  rintro e w' ⟨v', he, ho, hb, _⟩
  refine ⟨v', he, ?_, hb⟩
  rw [← itoa_digits n h0 h1, ← itoa_len n h0 h1]
  exact ho
end Go.Proofs.YtnbpkabnaipimaaGreatDoor
