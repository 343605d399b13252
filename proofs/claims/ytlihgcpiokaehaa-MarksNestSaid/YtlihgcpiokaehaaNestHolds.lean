/- What is proved: MarksNest returns true for every slice of ranges and every slice of edits, and leaves its arguments as they were.
   Conditions: none but the form's own reach. -/
import Derived.Test.YtlihgcpiokaehaaRows
import Derived.Test.YtlihgcpiokaehaaInB
import Derived.Test.YtlihgcpiokaehaaNest
namespace Go.Proofs.Ytlihgcpiokaehaa
open Go Go.RowKit Go.Lib Go.ChangeShapes Go.WideShapes Go.ChangeAt

theorem nest_walk (la ea : Option Addr) (n c m d : Nat) (xs : List Rn) (es : List Ed) (w : World) (hxs : Rows 4 Rn.cells w la n xs) (hes : Rows 3 Ed.cells w ea m es) :
    Calls Try.prog 5 #[.slice la n c, .slice ea m d] w fun e w' => e = .returned (.bool true) ∧ Below w.heap.size w w' := by
  by_cases hn : n ≤ 60
  · by_cases hm : m ≤ 30
    · exact nest_main la ea n c m d xs es w hn hm hxs hes
    · exact nest_long la ea n c m d w (.inr ⟨hn, by omega⟩)
  · exact nest_long la ea n c m d w (.inl (by omega))

theorem nest_contract (H : Type) (enc : TypeId × Value → H) (W : World) (base : Nat) (args : Array Value) (ds gs : List (DataW H)) (before : List MemPlace)
    (hval0 : ∀ (j : Nat) t v, Try.f5.params[j]? = some t → args[j]? = some v → Value.okWide Try.prog W .any base t v)
    (hW : DataW.Whole enc Try.prog Try.f5.params.toList Rows.marksNestSpec.vars false W args.toList ds gs before) :
    Calls Try.prog 5 args W fun e W' => ∃ v, e = .returned v ∧ Rows.marksNestSpec.post enc Try.prog Try.f5 false true false false W args v W' := by
  have hval : ∀ (j : Nat) t v, Try.f5.params[j]? = some t → args[j]? = some v → Value.okWide Try.prog W .any base t v := hval0
  have hW' := hW
  obtain ⟨p, q, hA0, hV, rfl, hfz, hnd⟩ := hW
  have hA : DataW.TrodAll enc Try.prog W 0 (fun _ => true) true Try.f5.params.toList args.toList ds p := hA0
  rw [Try.params5] at hA hval
  obtain ⟨v0, vs0, d0, ds0, p0, q0, hargs, rfl, rfl, h0, r0⟩ := trodAll_cons hA
  obtain ⟨v1, vs1, d1, ds1, p1, q1, rfl, rfl, rfl, h1, r1⟩ := trodAll_cons r0
  obtain ⟨rfl, rfl, rfl⟩ := trodAll_nil r1
  obtain rfl : args = #[v0, v1] := by cases args; simp_all
  obtain ⟨rfl, rfl⟩ := trodVars_none hV
  have k0 := h0
  have k1 := h1
  have lt0 : ∀ x ∈ p0, x.block < W.heap.size := by obtain ⟨m, hm⟩ := k0; exact DataW.trod_lt m _ _ _ hm
  have lt1 : ∀ x ∈ p1, x.block < W.heap.size := by obtain ⟨m, hm⟩ := k1; exact DataW.trod_lt m _ _ _ hm
  obtain ⟨la, n, c, xs, rfl, hxs⟩ := opened_rows (K := 4) Rn.cells 60 25 Try.underlying60 cells25 (fun _ _ _ h => range_open h) (fun _ => rfl) (by decide) (hval 0 60 v0 rfl rfl) h0
  obtain ⟨ea, m, d, es, rfl, hes⟩ := opened_rows (K := 3) Ed.cells 61 28 Try.underlying61 cells28 (fun _ _ _ h => edit_open h) (fun _ => rfl) (by decide) (hval 1 61 v1 rfl rfl) h1
  clear hA0 hval0
  refine (nest_walk la ea n c m d xs es W hxs hes).mono fun e W' ⟨he, bel⟩ => ?_
  subst he
  exact ⟨_, rfl, _, _, _, [], _, [], hW', trodAll_mk1 (shut_bool Try.underlying4 _), (trodAll_cons_mk (Below.trod laidOut (by kernel_rfl) (of_decide_eq_true (by kernel_rfl)) k0 bel lt0) (trodAll_cons_mk (Below.trod laidOut (by kernel_rfl) (of_decide_eq_true (by kernel_rfl)) k1 bel lt1) trodAll_mk0)), rfl, bel.frame _, fun h => by cases h⟩

set_option maxRecDepth 100000 in
theorem nest_lifted (os : Os) (started : os.Started) (H : Type) (enc : TypeId × Value → H) :
    ReturnsInHanded {} Try.checked os 5 .any (Rows.marksNestSpec.pre6 enc Try.prog Try.f5 Rows.marksNestRow.domain false) (Rows.marksNestSpec.post enc Try.prog Try.f5 false true false false) := by
  refine returnsInHanded_of_change (C := Try.checked) own started (by kernel_rfl) Try.func5
    (ChangeSpec.witness6 (enc := enc) (C := Try.checked) false ⟨#[], #[.slice none 0 0, .slice none 0 0], []⟩ 8 (by kernel_rfl) (by kernel_rfl) (by kernel_rfl) (by kernel_rfl)) ?_
  intro W base args ds gs before hval hW _ _
  exact nest_contract H enc W base args ds gs before hval hW

/-- MarksNest holds. -/
theorem nest_holds : Rows.MarksNestSaid :=
  OpenClaim.holds_of_wide 5 Try.f5 rfl rfl rfl rfl rfl rfl rfl ⟨rfl, rfl, rfl, rfl, rfl⟩ rfl rfl rfl rfl rfl (by kernel_rfl) Try.func5 (by kernel_rfl)
    (of_decide_eq_true (by kernel_rfl)) (by unfold Func.isWrapper; first | (rw [if_pos (by decide +kernel)]; kernel_rfl) | (rw [if_neg (by decide +kernel)]; exact ⟨rfl, rfl⟩))
    (fun os started H enc _ => nest_lifted os started H enc)
end Go.Proofs.Ytlihgcpiokaehaa
