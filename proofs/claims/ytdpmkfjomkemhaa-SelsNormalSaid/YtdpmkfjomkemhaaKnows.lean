/- The contract of the law's knows: the document's examples. Conditions: none. -/
import Derived.Test.YtdpmkfjomkemhaaNorms
import Derived.Test.YtdpmkfjomkemhaaIs
namespace Go.Proofs.Ytdpmkfjomkemhaa
open Go Go.RowKit

theorem norm_example : Norm [⟨2, 4⟩, ⟨6, 4⟩] [⟨2, 6⟩] := by
  have e1 : spans [⟨2, 4⟩, ⟨6, 4⟩] = [(2, 4), (4, 6)] := rfl
  have e2 : spans [⟨2, 6⟩] = [(2, 6)] := rfl
  refine ⟨fun p => ?_, fun p => ?_, List.pairwise_singleton _ _, fun x hx => ?_⟩
  · rw [e1, e2]
    simp only [Cov, List.mem_cons, List.not_mem_nil, or_false, exists_eq_or_imp, exists_eq_left]
    omega
  · rw [e1, e2]
    simp only [Edg, List.mem_cons, List.not_mem_nil, or_false, exists_eq_or_imp, exists_eq_left]
    omega
  · obtain rfl := List.mem_singleton.1 hx
    constructor
    · intro h
      exact absurd h (by decide)
    · rintro ⟨i, s, hf, hb⟩
      match i, hf with
      | 0, hf =>
        have := hf.1
        cases this
        exact absurd hb (by decide)
      | 1, hf =>
        have := hf.1
        cases this
        rcases hf.2.2.2.2 0 ⟨2, 4⟩ rfl (by decide) (by decide) (by decide) with h | h
        · omega
        · exact absurd h (by unfold Lex; decide)
      | i + 2, hf =>
        have := hf.1
        simp at this

theorem made_example {out : List Sl} (h : Made (ownOf 9 [⟨2, 4⟩, ⟨6, 4⟩]) out) : out = [⟨2, 6⟩] :=
  h.one (.inr ⟨by simp [ownOf], norm_example⟩)
theorem made_none {m : Int} {out : List Sl} (h : Made (ownOf m []) out) : out = [⟨0, 0⟩] := h.one (.inl ⟨rfl, rfl⟩)

open Classical in
theorem is_none (W : World) : Calls Try.prog 9 #[.slice none 0 0, .int .i64 3] W fun e w' => e = .returned (.bool false) ∧ Below W.heap.size W w' :=
  (isAt none 0 0 3 [] W (by omega) ⟨rfl, .inl rfl⟩).mono fun _ _ ⟨he, hb⟩ => ⟨he.trans (ret_bool (decide_eq_false fun h => h.1 rfl)), hb⟩
theorem normal_none (W : World) : Calls Try.prog 6 #[.slice none 0 0, .int .i64 3] W fun e w' => (∃ a c, e = .returned (.slice a 1 c)) ∧ Below W.heap.size W w' := by
  refine (normalAt none 0 0 3 [] W (by omega) ⟨rfl, .inl rfl⟩).mono ?_
  rintro e w' ⟨v, out, rfl, hm, own, hb⟩
  rw [made_none hm] at own
  obtain ⟨a, c, rfl, _, _, _⟩ := own_row sl_len (by decide) own
  exact ⟨⟨a, c, rfl⟩, hb⟩
set_option maxHeartbeats 4000000 in
theorem knowsAt (w : World) : Calls Try.prog 5 #[] w fun e w' => e = .returned (.bool true) ∧ Below w.heap.size w w' := by
  have IS := Lib.hid is_none
  have NN := Lib.hid normal_none
  go_enter Try.func5, Try.ntmps5
  go_wp2_with fail
  have B0 := Lib.hid (show Below w.heap.size w (w.alloc (Obj.cells #[.int .i64 2, .int .i64 4, .int .i64 6, .int .i64 4] 24)) from (Below.refl _ _).alloc (Nat.le_refl _) _)
  have hr : RowAt Sl.cells 24 (w.alloc (Obj.cells #[.int .i64 2, .int .i64 4, .int .i64 6, .int .i64 4] 24)) (some ⟨w.heap.size, 0, none⟩) 2 [⟨2, 4⟩, ⟨6, 4⟩] := ⟨rfl, .inr ⟨w.heap.size, 0, rfl, by simp, fun j u hj => by
    have h := new_cells w [.int .i64 2, .int .i64 4, .int .i64 6, .int .i64 4] 24 j u hj
    rwa [Addr.add_lit] at h⟩⟩
  have C := Lib.hid (normalAt (some ⟨w.heap.size, 0, none⟩) 2 2 9 [⟨2, 4⟩, ⟨6, 4⟩] _ (by omega) hr)
  clear hr
  (with_reducible refine C.out.mono ?_)
  rintro e w1 ⟨v1, out, rfl, hm, own1, hb1⟩
  have B1 := Lib.hid (B0.out.trans (hb1.mono B0.out.size))
  rw [made_example hm] at own1
  obtain ⟨a1, k1, rfl, _, _, hr1⟩ := own_row sl_len (by decide) own1
  rcases hr1.2 with h0 | ⟨g, off, rfl, hg, hc⟩
  · cases h0
  obtain ⟨c0, c1⟩ := slCells hc 0 ⟨2, 6⟩ rfl
  simp only [Nat.zero_mul, Nat.add_zero] at c0 c1
  clear own1 hm hb1 C hr1 hc
  go_wp2_with fail
  (with_reducible refine (NN.out _).mono ?_)
  rintro e w2 ⟨⟨a2, k2, rfl⟩, hb2⟩
  have B2 := Lib.hid (B1.out.trans (hb2.mono B1.out.size))
  clear hb2
  go_wp2_with fail
  (with_reducible refine (IS.out _).mono ?_)
  rintro e w3 ⟨rfl, hb3⟩
  have B3 := Lib.hid (B2.out.trans (hb3.mono B2.out.size))
  clear hb3
  go_wp2
  go_ret
  exact ⟨rfl, B3.out⟩
end Go.Proofs.Ytdpmkfjomkemhaa
