/- That the document's examples hold at this program ('knows'). Conditions: both tables of unicode/utf8 hold what their initialisers lay. -/
import Derived.Test.YtcpfillmdkhjlaaDoorWalkD
import Derived.Laws.BytesArg
namespace Go.Proofs.YtcpfillmdkhjlaaDoor
open Go Go.RowKit Go.Lib

/-- The bytes of runes, as numbers. -/
def encNums (zs : List Int) : List Int := zs.flatMap Lib.encodeRuneZ
theorem encCells_eq (zs : List Int) : encCells zs = (encNums zs).map (fun x => Value.int .u8 x) := by
  unfold encCells encNums Lib.runeCells
  rw [List.map_flatMap]

/-- A row of bytes that the call owns, as a text. -/
theorem conv_own {w : World} {B n : Nat} {v : Value} {xs : List Value} (h : w.ownsRow B 5 1 v n xs) (zs : List Int) (hx : xs = zs.map (fun x => Value.int .u8 x)) :
    (convert 25 9 v).run Tryd.prog w = .ok (.string (strOfNums zs)) w := by
  have hl := h.1
  rcases h.2 with ⟨rfl, rfl⟩ | ⟨g, cap, cur, rfl, _⟩
  · obtain rfl : zs = [] := by
      rw [hx] at hl
      cases zs with
      | nil => rfl
      | cons z r => simp at hl
    exact run_convert_bytes_nil (P := Tryd.prog) w 25 5 Tryd.underlying25 Tryd.underlying5 0 0 9 Tryd.underlying9
  · refine run_convert_bytes_arg (P := Tryd.prog) w 25 5 Tryd.underlying25 Tryd.underlying5 g 0 n cap zs (by rw [hx] at hl; simpa using hl) (fun i hi => ?_) 9 Tryd.underlying9
    have hi' : i < zs.length := by rw [hx] at hl; simp at hl; omega
    rw [Nat.zero_add, h.cellAt i (by omega), hx]
    simp [List.getD, List.getElem?_map, List.getElem?_eq_getElem hi']

theorem bytes3 (W : World) (x y z : UInt8) : BytesIn ⟨#[x, y, z]⟩ (some ⟨W.heap.size, 0, none⟩) (W.alloc (.cells #[.int .u8 x.toNat, .int .u8 y.toNat, .int .u8 z.toNat] 5)) := by
  refine .inr ⟨_, _, rfl, by simp, fun j hj => ?_⟩
  rw [Nat.zero_add, cell_of_row _ W.heap.size j _ 5 (0, 0) (heap_alloc_new W _)]
  have : j = 0 ∨ j = 1 ∨ j = 2 := by have : j < 3 := hj; omega
  rcases this with rfl | rfl | rfl <;> rfl
theorem bytes2 (W : World) (x y : UInt8) : BytesIn ⟨#[x, y]⟩ (some ⟨W.heap.size, 0, none⟩) (W.alloc (.cells #[.int .u8 x.toNat, .int .u8 y.toNat] 5)) := by
  refine .inr ⟨_, _, rfl, by simp, fun j hj => ?_⟩
  rw [Nat.zero_add, cell_of_row _ W.heap.size j _ 5 (0, 0) (heap_alloc_new W _)]
  have : j = 0 ∨ j = 1 := by have : j < 2 := hj; omega
  rcases this with rfl | rfl <;> rfl

theorem tabs_alloc {W : World} (o : Obj) (hT : Lib.Utf8Tabs 0 1 W) : Lib.Utf8Tabs 0 1 (W.alloc o) :=
  Utf8Tabs_below hT ((Below.refl _ _).alloc (Nat.le_refl _) o)

theorem below_new {W w' : World} {o : Obj} (h : Below (W.alloc o).heap.size (W.alloc o) w') : Below W.heap.size W w' :=
  ((Below.refl _ _).alloc (Nat.le_refl _) o).trans (h.mono (by simp))

theorem first_three (W : World) (hT : Lib.Utf8Tabs 0 1 W) :
    Calls Tryd.prog 11 #[.slice (some ⟨W.heap.size, 0, none⟩) 3 3] (W.alloc (.cells #[.int .u8 226, .int .u8 130, .int .u8 172] 5)) fun e w' => e = .returned (.tuple #[.int .i32 8364, .int .i64 3]) ∧ Below W.heap.size W w' := by
  refine (first ⟨#[226, 130, 172]⟩ (some ⟨W.heap.size, 0, none⟩) 3 _ (by decide) (tabs_alloc _ hT) (bytes3 W 226 130 172)).mono ?_
  rintro e w' ⟨rfl, hb⟩
  have hd : firstGo ⟨#[226, 130, 172]⟩ = (8364, 3) := by decide
  rw [hd]
  exact ⟨rfl, below_new hb⟩
theorem first_two (W : World) (hT : Lib.Utf8Tabs 0 1 W) :
    Calls Tryd.prog 11 #[.slice (some ⟨W.heap.size, 0, none⟩) 2 2] (W.alloc (.cells #[.int .u8 226, .int .u8 130] 5)) fun e w' => e = .returned (.tuple #[.int .i32 0, .int .i64 0]) ∧ Below W.heap.size W w' := by
  refine (first ⟨#[226, 130]⟩ (some ⟨W.heap.size, 0, none⟩) 2 _ (by decide) (tabs_alloc _ hT) (bytes2 W 226 130)).mono ?_
  rintro e w' ⟨rfl, hb⟩
  have hd : firstGo ⟨#[226, 130]⟩ = (0, 0) := by decide
  rw [hd]
  exact ⟨rfl, below_new hb⟩
theorem first_odd (W : World) (hT : Lib.Utf8Tabs 0 1 W) :
    Calls Tryd.prog 11 #[.slice (some ⟨W.heap.size, 0, none⟩) 2 2] (W.alloc (.cells #[.int .u8 226, .int .u8 40] 5)) fun e w' => e = .returned (.tuple #[.int .i32 65533, .int .i64 1]) ∧ Below W.heap.size W w' := by
  refine (first ⟨#[226, 40]⟩ (some ⟨W.heap.size, 0, none⟩) 2 _ (by decide) (tabs_alloc _ hT) (bytes2 W 226 40)).mono ?_
  rintro e w' ⟨rfl, hb⟩
  have hd : firstGo ⟨#[226, 40]⟩ = (65533, 1) := by decide
  rw [hd]
  exact ⟨rfl, below_new hb⟩
theorem encode_euro (W : World) :
    Calls Tryd.prog 9 #[.slice (some ⟨W.heap.size, 0, none⟩) 1 1] (W.alloc (.cells #[.int .i32 8364] 21)) fun e w' => ∃ v, e = .returned v ∧ (convert 25 9 v).run Tryd.prog w' = .ok (.string ⟨#[226, 130, 172]⟩) w' ∧ Below W.heap.size W w' := by
  refine (encode (some ⟨W.heap.size, 0, none⟩) 1 1 [8364] _ (by decide) ⟨rfl, .inr ⟨_, _, rfl, by simp, fun j z hz => ?_⟩⟩ (by intro z hz; simp at hz; omega)).mono ?_
  · have hj : j = 0 := by
      match j, hz with
      | 0, _ => rfl
      | (j + 1), hz => simp at hz
    subst hj
    simp at hz
    subst hz
    rw [Nat.zero_add, cell_of_row _ W.heap.size 0 _ 21 (0, 0) (heap_alloc_new W _)]
    rfl
  · rintro e w' ⟨v, rfl, hown, hb⟩
    exact ⟨v, rfl, conv_own hown [226, 130, 172] (by rw [encCells_eq, show encNums [8364] = [226, 130, 172] by decide]), below_new hb⟩

theorem knows (w : World) (hT : Lib.Utf8Tabs 0 1 w) :
    Calls Tryd.prog 6 #[] w fun e w' => e = .returned (.bool true) ∧ Below w.heap.size w w' := by
  have HT := Lib.hid hT
  clear hT
  go_enter Tryd.func6, Tryd.ntmps6
  go_wp2_with fail
  refine (first_three w HT.out).mono ?_
  rintro e w1 ⟨rfl, b1⟩
  have B1 := Lib.hid b1
  clear b1
  go_wp2_with fail
  refine (first_two w1 (Utf8Tabs_below HT.out B1.out)).mono ?_
  rintro e w2 ⟨rfl, b2⟩
  have B2 := Lib.hid (B1.out.trans (b2.mono B1.out.size))
  clear b2
  go_wp2_with fail
  refine (first_odd w2 (Utf8Tabs_below HT.out B2.out)).mono ?_
  rintro e w3 ⟨rfl, b3⟩
  have B3 := Lib.hid (B2.out.trans (b3.mono B2.out.size))
  clear b3
  go_wp2_with fail
  refine (encode_euro w3).mono ?_
  rintro e w4 ⟨v, rfl, hconv, b4⟩
  have B4 := Lib.hid (B3.out.trans (b4.mono B3.out.size))
  clear b4
  go_wp2
  go_ret
  exact ⟨rfl, B4.out⟩
end Go.Proofs.YtcpfillmdkhjlaaDoor
