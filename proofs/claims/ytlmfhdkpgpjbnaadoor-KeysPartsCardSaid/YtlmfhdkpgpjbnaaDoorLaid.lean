/- From what the row lists of the library's variables to what the contracts ask of the world; a world for the witness; a slice of bytes that came in. No conditions. -/
import Derived.Test.YtlmfhdkpgpjbnaaDoorParts
import Derived.Test.YtlmfhdkpgpjbnaaDoorCards
import Derived.Test.YtlmfhdkpgpjbnaaDoorTie
import Derived.ProofKit
import Derived.OpenShut
import Derived.ShutString
import Derived.ChangeOld
import Derived.Deep.DeepHandedRow
import Derived.Lib.LaidU8
import Derived.Stop.LaidErr
import Derived.Shelf.Vars
namespace Go.Proofs.YtlmfhdkpgpjbnaaDoor
open Go Go.RowKit Go.Lib Go.ChangeShapes Go.WideShapes Go.ChangeAt
set_option maxRecDepth 100000

theorem own : ownKnob Tryd.prog.godebug = none := by kernel_rfl
theorem laidOut : laidOutB Tryd.prog = true := by kernel_rfl
theorem gFirst : Tryd.prog.globalNamed "unicode/utf8.first" = some 0 := by kernel_rfl
theorem gAccept : Tryd.prog.globalNamed "unicode/utf8.acceptRanges" = some 1 := by kernel_rfl
theorem gSyntax : Tryd.prog.globalNamed "strconv.ErrSyntax" = some 3 := by kernel_rfl
theorem gFirstType : (Tryd.prog.globals[0]?).map (·.type) = some 49 := by kernel_rfl
theorem gAcceptType : (Tryd.prog.globals[1]?).map (·.type) = some 52 := by kernel_rfl
theorem gSyntaxType : (Tryd.prog.globals[3]?).map (·.type) = some 56 := by kernel_rfl
theorem cells5 : Tryd.prog.cellsOf 5 = 1 := by kernel_rfl
theorem cells9 : Tryd.prog.cellsOf 9 = 1 := by kernel_rfl
theorem cells49 : Tryd.prog.cellsOf 49 = 256 := by kernel_rfl
theorem cells51 : Tryd.prog.cellsOf 51 = 2 := by kernel_rfl
theorem cells89 : Tryd.prog.cellsOf 89 = 1 := by kernel_rfl
theorem firstIs : Rows.laid_unicode_utf8_first = firstData := by kernel_rfl
theorem acceptIs : (Rows.laid_unicode_utf8_acceptRanges : DataW Unit) = acceptData := by kernel_rfl

theorem star : "*" ++ "errors.errorString" = "*errors.errorString" := by decide
theorem row87 (u : TypeId) (h : Tryd.prog.typeName? 3 u = some "*errors.errorString") : u = 87 :=
  typeName_ptr_named (nm := "errors.errorString") (by rw [star]; kernel_rfl) (by kernel_rfl) (by decide) u (by rw [star]; exact h)

/-- What the row lists. -/
def laidList : List (String × DataW Unit) := Rows.keysPartsRow.laid

theorem tabs {w : World} (h : laidMet Tryd.prog laidList w) : Lib.Utf8Tabs 0 1 w := by
  have h3 : VarReads Tryd.prog w "unicode/utf8.first" firstData := by rw [← firstIs]; exact laidMet.reads h (by simp [laidList, Rows.keysPartsRow])
  have h4 : VarReads Tryd.prog w "unicode/utf8.acceptRanges" acceptData := by rw [← acceptIs]; exact laidMet.reads h (by simp [laidList, Rows.keysPartsRow])
  refine ⟨fun c hc => ?_, fun i hi => ?_⟩
  · obtain ⟨g, t, cs, fuel, p, hg, hty, hvar, hd⟩ := h3
    obtain rfl := Option.some.inj (gFirst.symm.trans hg)
    obtain rfl := Option.some.inj (gFirstType.symm.trans hty)
    have hcs := cells_of_tab Tryd.underlying49 Tryd.underlying5 cells5 cells49 hd
    rw [World.var?_cell hg hvar c, ← Array.getElem?_toList, hcs]
    simp [firstTab, hc]
  · obtain ⟨g, t, cs, fuel, p, hg, hty, hvar, hd⟩ := h4
    obtain rfl := Option.some.inj (gAccept.symm.trans hg)
    obtain rfl := Option.some.inj (gAcceptType.symm.trans hty)
    obtain ⟨fuel', d, q, hdi, he⟩ := array_elem Tryd.underlying52 hd i hi
    simp only [List.getElem?_map, List.getElem?_range hi, Option.map_some, Option.some.injEq] at hdi
    subst hdi
    rw [cells51] at he
    have hcs := ints_of_struct Tryd.underlying51 (fun j f hj => by
      match j, hj with
      | 0, hj => simp at hj; subst hj; exact ⟨Tryd.underlying5, rfl, cells5⟩
      | 1, hj => simp at hj; subst hj; exact ⟨Tryd.underlying5, rfl, cells5⟩
      | j + 2, hj => simp at hj) (by rw [cells51]; rfl) he
    have e0 := congrArg (·[0]?) hcs
    have e1 := congrArg (·[1]?) hcs
    simp only [List.getElem?_take, List.getElem?_drop] at e0 e1
    constructor
    · rw [World.var?_cell hg hvar (2 * i), ← Array.getElem?_toList]
      simpa [Nat.mul_comm] using e0
    · rw [World.var?_cell hg hvar (2 * i + 1), ← Array.getElem?_toList]
      simpa [Nat.mul_comm] using e1

theorem syntaxErr {w : World} (h : laidMet Tryd.prog laidList w) : ∃ te pe, w.cell? ⟨3, 0, none⟩ = some (.iface te pe) := by
  have h5 := laidMet.tail (laidMet.tail (laidMet.tail (laidMet.tail (laidMet.tail h))))
  obtain ⟨a, s, hv, _⟩ := laid_sentinel h5 gSyntax gSyntaxType Tryd.underlying56 row87 Tryd.underlying87 Tryd.underlying89 rfl rfl Tryd.underlying9 cells89 cells9
  have hc := World.var?_cell gSyntax hv 0
  exact ⟨87, .pointer (some a), by simpa using hc⟩

theorem maxLenCell {w : World} (h : w.ShapedOpen Tryd.prog) : ∃ m, w.cell? ⟨2, 0, none⟩ = some (.int .i64 m) :=
  cell_of_shapedOpen_int (zero := #[.int .i64 0]) (t := 3) h (of_decide_eq_true (by kernel_rfl)) (by kernel_rfl) rfl (by kernel_rfl) (by kernel_rfl) Tryd.underlying3

theorem wdAt {w : World} (h : laidMet Tryd.prog laidList w) (hs : w.ShapedOpen Tryd.prog) : Wd w := ⟨tabs h, maxLenCell hs, syntaxErr h⟩

/-- One block holds these cells. -/
def laying (cs : List Value) : Obj → Obj
  | .cells _ t frozen => .cells cs.toArray t frozen
  | o => o
noncomputable def low : Nat := (World.holding Tryd.prog default ⟨#[], #[], []⟩).heap.size
abbrev rangeS : ByteArray := { data := #[118, 97, 108, 117, 101, 32, 111, 117, 116, 32, 111, 102, 32, 114, 97, 110, 103, 101] }
abbrev syntaxS : ByteArray := { data := #[105, 110, 118, 97, 108, 105, 100, 32, 115, 121, 110, 116, 97, 120] }
def d32 : List Int := [0, 1, 28, 2, 29, 14, 24, 3, 30, 22, 20, 15, 25, 17, 4, 8, 31, 27, 13, 23, 21, 19, 16, 7, 26, 12, 18, 6, 11, 5, 10, 9]
def d64 : List Int := [0, 1, 56, 2, 57, 49, 28, 3, 61, 58, 42, 50, 38, 29, 17, 4, 62, 47, 59, 36, 45, 43, 51, 22, 53, 39, 33, 30, 24, 18, 12, 5, 63, 55, 48, 27, 60, 41, 37, 16, 46, 35, 44, 21, 52, 32, 23, 11, 54, 26, 40, 15, 34, 20, 31, 10, 25, 14, 19, 9, 13, 8, 7, 6]
def p10 : List Int := (List.range 20).map fun i => (10 : Int) ^ i
/-- A world for the witness: the settled one, each variable as its initialiser lays it. -/
noncomputable def laidWorld (os : Os) : World :=
  { World.holding Tryd.prog os ⟨#[.cells #[.string rangeS] 89, .cells #[.string syntaxS] 89], #[], []⟩ with
    heap := ((((((World.holding Tryd.prog os ⟨#[.cells #[.string rangeS] 89, .cells #[.string syntaxS] 89], #[], []⟩).heap.modify 0 (laying ((List.range 256).map fun c => Value.int .u8 (firstT c)))).modify 1 (laying ((List.range 16).flatMap fun i => [Value.int .u8 (accLo i), Value.int .u8 (accHi i)]))).modify 3 (laying [.iface 87 (.pointer (some ⟨low + 1, 0, none⟩))])).modify 4 (laying [.iface 87 (.pointer (some ⟨low, 0, none⟩))])).modify 5 (laying (p10.map fun n => Value.int .u64 n))).modify 6 (laying (d32.map fun n => Value.int .u8 n)) |>.modify 7 (laying (d64.map fun n => Value.int .u8 n)) }
theorem laid_met (os : Os) (args : Array Value) : laidMet Tryd.prog laidList ((laidWorld os).forCall (fun _ _ => 0) ⟨#[], args, []⟩).memory :=
  laidMet_of_run' 8 (by kernel_rfl) (by kernel_rfl)

/-- A slice of bytes that came in. -/
def IsRow (w : World) (a : Option Addr) (len cap : Nat) (zs : List Int) : Prop :=
  (a = none ∧ len = 0 ∧ cap = 0 ∧ zs = []) ∨
  ∃ x, a = some x ∧ len ≤ cap ∧ cap ≤ maxLen ∧ zs.length = cap ∧ (∀ i, i < zs.length → w.cell? (x.add i) = some (.int .u8 (zs.getD i 0))) ∧ ∀ n ∈ zs, (Lit.int .u8 n).wf = true

theorem IsRow.bytes {w : World} {a : Option Addr} {len cap : Nat} {zs : List Int} (h : IsRow w a len cap zs) : ∃ l : List UInt8, l.length = len ∧ BytesIn l a w ∧ len ≤ cap ∧ cap ≤ 9223372036854775807 ∧ (a = none → len = 0 ∧ cap = 0) := by
  rcases h with ⟨rfl, rfl, rfl, rfl⟩ | ⟨x, rfl, hl, hm, hz, hc, hw⟩
  · exact ⟨[], rfl, .inl rfl, Nat.le_refl _, by omega, fun _ => ⟨rfl, rfl⟩⟩
  · refine ⟨Lib.bytesOf (zs.take len), by unfold Lib.bytesOf; rw [List.length_map, List.length_take]; omega, ?_, hl, by unfold maxLen at hm; omega, fun e => by cases e⟩
    by_cases h0 : len = 0
    · exact .inl (by unfold Lib.bytesOf; rw [List.length_map, List.length_take]; omega)
    · have c0 := hc 0 (by omega)
      obtain ⟨b, off, sp⟩ := x
      have e0 : (Addr.add ⟨b, off, sp⟩ 0) = ⟨b, off, sp⟩ := by simp [Addr.add]
      rw [e0] at c0
      obtain rfl := cell_spot c0
      refine .inr ⟨b, off, rfl, block_lt_of_cell c0, fun j hj => ?_⟩
      have hj' : j < len := by unfold Lib.bytesOf at hj; rw [List.length_map, List.length_take] at hj; omega
      have hcj := hc j (by omega)
      rw [Addr.add_lit] at hcj
      rw [hcj]
      have hb := bounds_u8 (hw (zs.getD j 0) (by rw [List.getD_eq_getElem?_getD, List.getElem?_eq_getElem (by omega)]; exact List.getElem_mem _))
      have e : bAt (Lib.bytesOf (zs.take len)) j = (zs.getD j 0).toNat := by
        unfold bAt Lib.bytesOf
        rw [List.getD_eq_getElem?_getD, List.getElem?_map, List.getElem?_take, if_pos hj', List.getD_eq_getElem?_getD, List.getElem?_eq_getElem (by omega)] at *
        simp only [Option.map_some, Option.getD_some, UInt8.toNat_ofNat'] at hb ⊢
        omega
      rw [e]
      congr 2
      omega
end Go.Proofs.YtlmfhdkpgpjbnaaDoor
