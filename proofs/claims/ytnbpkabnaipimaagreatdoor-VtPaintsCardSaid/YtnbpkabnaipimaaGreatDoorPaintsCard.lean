/- VtPaints's card, over contracts of the program's functions and what the listed variables give. No other conditions. -/
import Derived.Test.YtnbpkabnaipimaaGreatDoorLaid
import Derived.Test.YtnbpkabnaipimaaGreatDoorIn
namespace Go.Proofs.YtnbpkabnaipimaaGreatDoor
open Go Go.RowKit Go.Lib

/-- One block holds these cells. -/
def laying (cs : List Value) : Obj → Obj
  | .cells _ t frozen => .cells cs.toArray t frozen
  | o => o
def d32 : List Int := [0, 1, 28, 2, 29, 14, 24, 3, 30, 22, 20, 15, 25, 17, 4, 8, 31, 27, 13, 23, 21, 19, 16, 7, 26, 12, 18, 6, 11, 5, 10, 9]
def d64 : List Int := [0, 1, 56, 2, 57, 49, 28, 3, 61, 58, 42, 50, 38, 29, 17, 4, 62, 47, 59, 36, 45, 43, 51, 22, 53, 39, 33, 30, 24, 18, 12, 5, 63, 55, 48, 27, 60, 41, 37, 16, 46, 35, 44, 21, 52, 32, 23, 11, 54, 26, 40, 15, 34, 20, 31, 10, 25, 14, 19, 9, 13, 8, 7, 6]
def p10 : List Int := (List.range 20).map fun i => (10 : Int) ^ i
noncomputable def low : Nat := (World.holding Tryz.prog default ⟨#[], #[], []⟩).heap.size
abbrev rangeS : ByteArray := { data := #[118, 97, 108, 117, 101, 32, 111, 117, 116, 32, 111, 102, 32, 114, 97, 110, 103, 101] }
abbrev syntaxS : ByteArray := { data := #[105, 110, 118, 97, 108, 105, 100, 32, 115, 121, 110, 116, 97, 120] }
/-- What each listed variable holds, by its number. -/
noncomputable def tables : List (Nat × List Value) := [
  (4, p10.map fun n => Value.int .u64 n),
  (5, d32.map fun n => Value.int .u8 n),
  (6, d64.map fun n => Value.int .u8 n),
  (0, [.int .i64 7, .int .i64 4, .int .i64 1]),
  (8, [.iface 149 (.pointer (some ⟨low + 1, 0, none⟩))]),
  (9, [.iface 149 (.pointer (some ⟨low, 0, none⟩))]),
  (2, (List.range 256).map fun c => Value.int .u8 (firstT c)),
  (3, (List.range 16).flatMap fun i => [Value.int .u8 (accLo i), Value.int .u8 (accHi i)]),
  (1, spansA.toList)]
noncomputable def laidWorld (os : Os) : World :=
  { World.holding Tryz.prog os ⟨#[.cells #[.string rangeS] 151, .cells #[.string syntaxS] 151], #[], []⟩ with heap := tables.foldl (fun h x => h.modify x.1 (laying x.2)) (World.holding Tryz.prog os ⟨#[.cells #[.string rangeS] 151, .cells #[.string syntaxS] 151], #[], []⟩).heap }
end Go.Proofs.YtnbpkabnaipimaaGreatDoor
namespace Go.Proofs.YtnbpkabnaipimaaGreatDoor
open Go Go.RowKit Go.Lib Go.ChangeShapes Go.WideShapes Go.ChangeAt

theorem paints_walk {Wd : World → Prop} (S : Said Wd) (R C : Int) (fa : Option Addr) (fn fc : Nat) (f : List Cl) (Q D : Int) (ta : Option Addr) (tn tc : Nat) (t : List Cl) (w : World) (hw : Wd w) (hfc : fn ≤ fc) (htc : tn ≤ tc) (hf : RowAt w fa fn f) (ht : RowAt w ta tn t) :
    Calls Tryz.prog 3 #[GridV R C fa fn fc, GridV Q D ta tn tc] w fun e w' => e = .returned (.bool true) ∧ Below w.heap.size w w' := by
  by_cases h : 300 < fn ∨ 300 < tn
  · exact paints_long S R C fa fn fc Q D ta tn tc w hw h
  · exact paints_short S R C fa fn fc f Q D ta tn tc t w hw (by omega) (by omega) hfc htc hf ht

set_option maxRecDepth 100000 in
theorem paints_contract {Wd : World → Prop} (S : Said Wd) (H : Type) (enc : TypeId × Value → H) (W : World) (base : Nat) (args : Array Value) (ds gs : List (DataW H)) (before : List MemPlace)
    (hval0 : ∀ (j : Nat) t v, Tryz.f3.params[j]? = some t → args[j]? = some v → Value.okWide Tryz.prog W .any base t v)
    (hW : DataW.Whole enc Tryz.prog Tryz.f3.params.toList Rows.vtPaintsSpec.vars false W args.toList ds gs before) (hw : Wd W) :
    Calls Tryz.prog 3 args W fun e W' => ∃ v, e = .returned v ∧ Rows.vtPaintsSpec.post enc Tryz.prog Tryz.f3 false true false false W args v W' := by
  have hval : ∀ (j : Nat) t v, Tryz.f3.params[j]? = some t → args[j]? = some v → Value.okWide Tryz.prog W .any base t v := hval0
  have hW' := hW
  obtain ⟨p, q, hA0, hV, rfl, hfz, hnd⟩ := hW
  have hA : DataW.TrodAll enc Tryz.prog W 0 (fun _ => true) true Tryz.f3.params.toList args.toList ds p := hA0
  rw [Tryz.params3] at hA hval
  obtain ⟨v0, vs0, d0, ds0, p0, q0, hargs, rfl, rfl, h0, r0⟩ := trodAll_cons hA
  obtain ⟨v1, vs1, d1, ds1, p1, q1, rfl, rfl, rfl, h1, r1⟩ := trodAll_cons r0
  obtain ⟨rfl, rfl, rfl⟩ := trodAll_nil r1
  obtain rfl : args = #[v0, v1] := by cases args; simp_all
  obtain ⟨rfl, rfl⟩ := trodVars_none hV
  have k0 := h0
  have k1 := h1
  have lt0 : ∀ x ∈ p0, x.block < W.heap.size := by obtain ⟨m, hm⟩ := k0; exact DataW.trod_lt m _ _ _ hm
  have lt1 : ∀ x ∈ p1, x.block < W.heap.size := by obtain ⟨m, hm⟩ := k1; exact DataW.trod_lt m _ _ _ hm
  obtain ⟨cs0, rfl, _⟩ := okWide_struct Tryz.underlying24 (hval 0 24 v0 rfl rfl)
  obtain ⟨cs1, rfl, _⟩ := okWide_struct Tryz.underlying24 (hval 1 24 v1 rfl rfl)
  obtain ⟨R, C, fa, fn, fc, f, hx0, hfc, hf⟩ : ∃ (R C : Int) (a : Option Addr) (n c : Nat) (l : List Cl), cs0 = #[.int .i64 R, .int .i64 C, .slice a n c] ∧ n ≤ c ∧ RowAt W a n l := by
    obtain ⟨fuel, hff⟩ := h0
    obtain ⟨R, C, a, n, c, l, hx, hle, hr⟩ := grid_open hff
    exact ⟨R, C, a, n, c, l, by rw [← Array.toList_inj]; simpa [Value.cells] using hx, hle, hr⟩
  obtain ⟨Q, D, ta, tn, tc, t, hx1, htc, ht⟩ : ∃ (R C : Int) (a : Option Addr) (n c : Nat) (l : List Cl), cs1 = #[.int .i64 R, .int .i64 C, .slice a n c] ∧ n ≤ c ∧ RowAt W a n l := by
    obtain ⟨fuel, hff⟩ := h1
    obtain ⟨R, C, a, n, c, l, hx, hle, hr⟩ := grid_open hff
    exact ⟨R, C, a, n, c, l, by rw [← Array.toList_inj]; simpa [Value.cells] using hx, hle, hr⟩
  subst hx0 hx1
  clear hA0 hval0
  refine (paints_walk S R C fa fn fc f Q D ta tn tc t W hw hfc htc hf ht).mono fun e W' ⟨he, bel⟩ => ?_
  subst he
  exact ⟨_, rfl, _, _, _, [], _, [], hW', trodAll_mk1 (shut_bool Tryz.underlying4 _), (trodAll_cons_mk (Below.trod laidOut (by kernel_rfl) (of_decide_eq_true (by kernel_rfl)) k0 bel lt0) (trodAll_cons_mk (Below.trod laidOut (by kernel_rfl) (of_decide_eq_true (by kernel_rfl)) k1 bel lt1) trodAll_mk0)), rfl, bel.frame _, fun h => by cases h⟩
end Go.Proofs.YtnbpkabnaipimaaGreatDoor
namespace Go.Proofs.YtnbpkabnaipimaaGreatDoor
open Go Go.RowKit Go.Lib Go.ChangeShapes Go.WideShapes Go.ChangeAt

theorem paints_met (os : Os) (args : Array Value) : laidMet Tryz.prog Rows.vtPaintsRow.laid ((laidWorld os).forCall (fun _ _ => 0) ⟨#[], args, []⟩).memory :=
  laidMet_of_run' 8 (by kernel_rfl) (by kernel_rfl)
theorem paints_reads (os : Os) {H : Type} (enc : TypeId × Value → H) : ∃ places, DataW.whole enc Tryz.prog ((laidWorld os).forCall (fun _ _ => 0) ⟨#[], #[.agg #[.int .i64 0, .int .i64 0, .slice none 0 0], .agg #[.int .i64 0, .int .i64 0, .slice none 0 0]], []⟩).memory Tryz.f3.params.toList Rows.vtPaintsSpec.vars false (#[.agg #[.int .i64 0, .int .i64 0, .slice none 0 0], .agg #[.int .i64 0, .int .i64 0, .slice none 0 0]] : Array Value).toList 8 = some ([.agg [.lit (.int .i64 0), .lit (.int .i64 0), .nil], .agg [.lit (.int .i64 0), .lit (.int .i64 0), .nil]], [], places) :=
  ⟨[], by kernel_rfl⟩

set_option maxRecDepth 100000 in
theorem paints_lifted {Wd : World → Prop} (S : Said Wd) (hWd : ∀ W, laidMetH Tryz.prog Rows.vtPaintsRow.laid W → W.ShapedOpen Tryz.prog → Wd W) (os : Os) (started : os.Started) (H : Type) (enc : TypeId × Value → H) (F : Stop.Interp) :
    ReturnsInHanded {} Tryz.checked os 3 .any ((OpenSpec.ofChange Rows.vtPaintsSpec).preRow enc Tryz.prog Tryz.f3 Rows.vtPaintsRow.domain false Rows.vtPaintsRow.laid) (((OpenSpec.ofChange Rows.vtPaintsSpec).at F).post enc Tryz.prog Tryz.f3 false true false false) := by
  obtain ⟨places, hx⟩ := paints_reads os enc
  refine returnsInHanded_of_row (C := Tryz.checked) (s := OpenSpec.ofChange Rows.vtPaintsSpec) own started (by kernel_rfl) Tryz.func3
    (witness_row_at (enc := enc) (C := Tryz.checked) false (laidWorld os) #[.agg #[.int .i64 0, .int .i64 0, .slice none 0 0], .agg #[.int .i64 0, .int .i64 0, .slice none 0 0]] rfl (by kernel_rfl) (by kernel_rfl) (by kernel_rfl)
      (OpenSpec.preRow_of_cond 8 hx (by kernel_rfl) (fun k hk => by cases hk) (by kernel_rfl) (paints_met os _))) ?_
  intro W base args ds gs before hval hW _ _ _ hL hS _
  exact paints_contract S H enc W base args ds gs before hval hW (hWd W hL hS)

theorem paints_said {Wd : World → Prop} (S : Said Wd) (hWd : ∀ W, laidMetH Tryz.prog Rows.vtPaintsRow.laid W → W.ShapedOpen Tryz.prog → Wd W) : Rows.VtPaintsSaid :=
  OpenClaim.holds_of_cond 3 Tryz.f3 rfl rfl rfl rfl rfl rfl rfl ⟨rfl, rfl, rfl, rfl, rfl⟩ rfl rfl rfl rfl rfl (by kernel_rfl) Tryz.func3 (by kernel_rfl)
    (of_decide_eq_true (by kernel_rfl)) (by unfold Func.isWrapper; first | (rw [if_pos (by decide +kernel)]; kernel_rfl) | (rw [if_neg (by decide +kernel)]; exact ⟨rfl, rfl⟩))
    (fun os started H enc _ F => by rw [OpenClaim.pre_eq_preRow]; exact paints_lifted S hWd os started H enc F)

theorem paints_plain (f : FuncId) (fn : Func) (hf : Tryz.pinned.checked.prog.funcNamed "stylus/styluslaw23.VtPaints" = some f) (hfn : Tryz.pinned.checked.prog.funcs[f]? = some fn) :
    ∀ (j : Nat) t, fn.params[j]? = some t → Tryz.pinned.checked.prog.wantsStandIn t = false := by
  obtain rfl : f = 3 := Option.some.inj ((show Tryz.prog.funcNamed "stylus/styluslaw23.VtPaints" = some 3 by kernel_rfl).symm.trans hf) |>.symm
  obtain rfl : fn = Tryz.f3 := (Option.some.inj (Tryz.func3.symm.trans hfn)).symm
  intro j t ht
  rw [Tryz.params3] at ht
  have h : t = 24 ∨ t = 24 := by simpa using Array.mem_of_getElem? ht
  rcases h with rfl | rfl
  · exact (show Tryz.prog.wantsStandIn 24 = false by kernel_rfl)
  · exact (show Tryz.prog.wantsStandIn 24 = false by kernel_rfl)

/-- The card, from its row. -/
theorem paints_card_of (h : Rows.VtPaintsSaid) : Rows.VtPaintsCardSaid :=
  Claim7.holds_tied_plain_at .later [] _ _ _ _ h (fun _ h => by cases h) (by kernel_rfl) (fun _ h => by cases h) vtPaints_row_tie rfl ⟨rfl, rfl⟩ (by kernel_rfl) rfl (fun f fn hf hfn => ⟨by kernel_rfl, paints_plain f fn hf hfn⟩) (by kernel_rfl)
end Go.Proofs.YtnbpkabnaipimaaGreatDoor
