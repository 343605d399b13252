/- The walk of WidthAdds. -/
import Derived.Test.YtdeckkmlcbbjcaaDoorWalkD
import Derived.Deep.RegionWith
import Derived.IntWalk
namespace Go.Proofs.YtdeckkmlcbbjcaaDoor
open Go Go.RowKit

theorem adds_long (a : Option Addr) (n cap : Nat) (x c : Int) (w : World) (hn : 500 < n) (hT : Tab w) :
    Calls Tryd.prog 4 #[.slice a n cap, .int .u16 x, .int .u16 c] w fun e w' => e = .returned (.bool true) ∧ Below w.heap.size w w' := by
  have hn' : (500 : Int) < (n : Int) := by omega
  have HT := Lib.hid hT
  clear hT
  go_enter Tryd.func4, Tryd.ntmps4
  go_wp2_with (go_at_call 5; refine (knows _ HT.out).mono ?_; rintro e w' ⟨rfl, hb⟩)
  go_ret
  exact ⟨rfl, ‹_›⟩

theorem add_zero' (x : Addr) : x.add 0 = x := by
  obtain ⟨b, off, sp⟩ := x
  simp [Addr.add]
theorem size21 : ∀ w : World, (sizeOf (Tryd.prog.elem 22)).run Tryd.prog w = .ok 1 w := fun _ => by kernel_rfl
theorem und22 : Tryd.prog.underlying 22 = some (.slice (Tryd.prog.elem 22)) := by kernel_rfl

theorem slice_to (a : Option Addr) (n cap i : Nat) (hi : i ≤ cap) (w : World) : (Instr.slice 22 (.slice a n cap) none (some (.int .i64 i)) none).run Tryd.prog w = .ok (.slice a i cap) w := by
  rw [run_slice_h (P := Tryd.prog) w 22 a n cap und22 .i64 (i : Int) (by omega) (by omega), size21]
  simp only [Result.andThen, sliced]
  have e : (if cap = 0 then a else a.map (·.add (0 * 1))) = a := by
    split
    · rfl
    · cases a with
      | none => rfl
      | some x => simp [add_zero']
  rw [e]
  simp
theorem slice_from (a : Option Addr) (n cap i : Nat) (hi : i ≤ n) (hn : n ≤ cap) : ∃ a', (∀ w : World, (Instr.slice 22 (.slice a n cap) (some (.int .i64 i)) none none).run Tryd.prog w = .ok (.slice a' (n - i) (cap - i)) w) ∧ ∀ w zs, SeqAt w a n zs → SeqAt w a' (n - i) (zs.drop i) := by
  refine ⟨if cap = i then a else a.map (·.add (i * 1)), fun w => ?_, fun w zs h => ⟨by have := h.1; simp; omega, ?_⟩⟩
  · rw [run_slice_l (P := Tryd.prog) w 22 a n cap und22 .i64 (i : Int) (by omega) (by omega), size21]
    simp only [Result.andThen, sliced]
    simp
  · by_cases h0 : n - i = 0
    · exact .inl h0
    · rcases h.2 with h1 | ⟨b, off, rfl, hlt, hc⟩
      · omega
      · refine .inr ⟨b, off + i, ?_, hlt, fun j z hz => ?_⟩
        · rw [if_neg (by omega)]
          simp [Addr.add_lit]
        · rw [List.getElem?_drop] at hz
          rw [show off + i + j = off + (i + j) by omega]
          exact hc _ _ hz

theorem adds_first {w w1 : World} (b0 : Hid (Below w.heap.size w w.drew)) (b1 : Below w.drew.heap.size w.drew w1) : Below w.heap.size w w1 :=
  b0.out.trans (b1.mono b0.out.size)

set_option maxHeartbeats 2000000 in
theorem adds_short (a : Option Addr) (n cap : Nat) (zs : List Int) (x c : Nat) (w : World) (hn : n ≤ 500) (hcap : n ≤ cap) (hx : x ≤ 65535) (hc : c ≤ 65535) (hT : Tab w) (h : SeqAt w a n zs) :
    Calls Tryd.prog 4 #[.slice a n cap, .int .u16 x, .int .u16 c] w fun e w' => e = .returned (.bool true) ∧ Below w.heap.size w w' := by
  have hn' : ¬ (500 : Int) < (n : Int) := by omega
  have hp := hT.pos
  obtain ⟨i, hi⟩ : ∃ i, i = x % (n + 1) := ⟨_, rfl⟩
  have hin : i ≤ n := by have := Nat.mod_lt x (show 0 < n + 1 by omega); omega
  have hm : (x : Int) % ((n : Int) + 1) = (i : Int) := by rw [hi]; simp
  have HI := Lib.hid hi
  have HT := Lib.hid hT
  have HS := Lib.hid h
  clear hi hT h
  have hs1 := slice_to a n cap i (by omega)
  obtain ⟨a', hs2, HD'⟩ := slice_from a n cap i hin hcap
  have HD := Lib.hid HD'
  clear HD'
  go_enter Tryd.func4, Tryd.ntmps4
  go_wp2_with fail
  have bd : Below w.heap.size w w.drew := (Below.refl _ _).drew
  have B0 := Lib.hid bd
  have T0 := Lib.hid (HT.out.below hp bd)
  have Q0 := Lib.hid ((HS.out.below (Nat.le_refl _) bd).take i hin)
  clear bd
  have hlen := HS.out.1
  have hsum : sw (zs.take i) + sw (zs.drop i) = sw zs := by rw [← sw_append, List.take_append_drop]
  have hsb := sw_bounds zs
  have hwr : IntKind.i64.wrap (sw (zs.take i) + sw (zs.drop i)) = sw zs := by rw [hsum]; exact IntWalk.i64_in _ (by omega)
  clear hsum hlen hsb
  go_region_with (first
    | (go_at_call 8; (with_reducible refine (text a i cap (zs.take i) w.drew (by omega) T0.out Q0.out).mono ?_); rintro e w1 ⟨rfl, b1⟩; have B1 := Lib.hid (adds_first B0 b1); clear b1)
    | (go_at_call 8; (with_reducible refine (text a' (n - i) (cap - i) (zs.drop i) w1 (by omega) (HT.out.below hp B1.out) (HD.out _ _ (HS.out.below (Nat.le_refl _) B1.out))).mono ?_); rintro e w2 ⟨rfl, b2⟩; have B2 := Lib.hid (B1.out.trans (b2.mono B1.out.size)); clear b2)
    | (go_at_call 8; (with_reducible refine (text a n cap zs w2 (by omega) (HT.out.below hp B2.out) (HS.out.below (Nat.le_refl _) B2.out)).mono ?_); rintro e w3 ⟨rfl, b3⟩; have B3 := Lib.hid (B2.out.trans (b3.mono B2.out.size)); clear b3))
  clear hwr hs2 hs1 hm
  obtain ⟨F, hF⟩ : ∃ F, F = fitZ zs c := ⟨_, rfl⟩
  have hlen := HS.out.1
  have e0 : fitZ zs c = fitL zs c := by unfold fitZ; rw [if_neg (by omega)]
  have f1 : F ≤ n := by have := fitL_le zs c; omega
  have f2 : sw (zs.take F) ≤ (c : Int) := by rw [hF, e0]; exact fitL_fits zs c (by omega)
  have f3 : F < n → (c : Int) < sw (zs.take (F + 1)) := by rw [hF, e0]; intro h; exact fitL_next zs c (by omega)
  have F3 := Lib.hid f3
  have EF := Lib.hid hF
  clear e0 hlen f3 hF
  have g1 : ¬ (F : Int) < 0 := by omega
  have g2 : decide (n < F) = false := by simp; omega
  have g3 : ¬ (c : Int) < sw (zs.take F) := by omega
  have hs3 := slice_to a n cap F (by omega)
  go_wp2_with fail
  ((with_reducible refine (fit a n cap zs c w3 (by omega) (by omega) (HT.out.below hp B3.out) (HS.out.below (Nat.le_refl _) B3.out)).mono ?_))
  rw [← EF.out]
  rintro e w4 ⟨rfl, b4⟩
  have B4 := Lib.hid (B3.out.trans (b4.mono B3.out.size))
  clear b4
  go_wp2_with fail
  ((with_reducible refine (text a F cap (zs.take F) w4 (by omega) (HT.out.below hp B4.out) ((HS.out.below (Nat.le_refl _) B4.out).take F f1)).mono ?_))
  rintro e w5 ⟨rfl, b5⟩
  have B5 := Lib.hid (B4.out.trans (b5.mono B4.out.size))
  clear b5
  by_cases hlast : F = n
  · have HL := Lib.hid hlast
    have g4 : ((F : Int) == (n : Int)) = true := by simp [hlast]
    clear hlast
    go_wp2_with fail
    refine (knows _ (HT.out.below hp B5.out)).mono ?_
    rintro e w6 ⟨rfl, b6⟩
    have B6 := Lib.hid (B5.out.trans (b6.mono B5.out.size))
    clear b6
    go_wp2
    go_ret
    exact ⟨rfl, B6.out⟩
  · have g4 : ((F : Int) == (n : Int)) = false := by simp; omega
    have g5 : (c : Int) < sw (zs.take (F + 1)) := F3.out (by omega)
    have hs4 := slice_to a n cap (F + 1) (by omega)
    rw [show ((F + 1 : Nat) : Int) = (F : Int) + 1 by simp] at hs4
    go_wp2_with fail
    ((with_reducible refine (text a (F + 1) cap (zs.take (F + 1)) w5 (by omega) (HT.out.below hp B5.out) ((HS.out.below (Nat.le_refl _) B5.out).take (F + 1) (by omega))).mono ?_))
    rintro e w6 ⟨rfl, b6⟩
    have B6 := Lib.hid (B5.out.trans (b6.mono B5.out.size))
    clear b6
    go_wp2_with fail
    refine (knows _ (HT.out.below hp B6.out)).mono ?_
    rintro e w7 ⟨rfl, b7⟩
    have B7 := Lib.hid (B6.out.trans (b7.mono B6.out.size))
    clear b7
    go_wp2
    go_ret
    exact ⟨rfl, B7.out⟩
end Go.Proofs.YtdeckkmlcbbjcaaDoor
