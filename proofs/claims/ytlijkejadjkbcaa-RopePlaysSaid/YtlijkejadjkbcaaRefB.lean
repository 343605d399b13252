/- The contracts of the reference's Insert and Delete. -/
import Derived.Test.YtlijkejadjkbcaaRefA
namespace Go.Proofs.Ytlijkejadjkbcaa
open Go Go.RowKit

theorem refInsert_no (a : Option Addr) (n cap : Nat) (x : Int) (c : Option Addr) (m cap' : Nat) (ys : List Int) (w : World) (hm : m ≤ 1099511627776) (hy : SeqAt .i32 w c m ys) (h : ¬ (0 ≤ x ∧ x ≤ n) ∨ ys.all Lib.validRune = false) :
    Calls Try.prog 9 #[.slice a n cap, .int .i64 x, .slice c m cap'] w fun e w' => e = .returned (.tuple #[.slice a n cap, .int .i64 1]) ∧ w = w' := by
  have A := Lib.hid (all c m cap' ys w hm hy)
  clear hy
  by_cases h0 : x < 0
  · clear h
    go_enter Try.func9, Try.ntmps9
    go_wp2_with fail
    (with_reducible refine A.out.mono ?_)
    rintro e w' ⟨rfl, rfl⟩
    go_wp2
    go_ret2
    exact ⟨rfl, rfl⟩
  · by_cases h1 : (n : Int) < x
    · clear h
      go_enter Try.func9, Try.ntmps9
      go_wp2_with fail
      (with_reducible refine A.out.mono ?_)
      rintro e w' ⟨rfl, rfl⟩
      go_wp2
      go_ret2
      exact ⟨rfl, rfl⟩
    · have hv : ys.all Lib.validRune = false := by
        rcases h with h | h
        · omega
        · exact h
      have A' := A.out
      rw [hv] at A'
      have AA := Lib.hid A'
      clear h hv A' A
      go_enter Try.func9, Try.ntmps9
      go_wp2_with fail
      (with_reducible refine AA.out.mono ?_)
      rintro e w' ⟨rfl, rfl⟩
      go_wp2
      go_ret2
      exact ⟨rfl, rfl⟩
theorem refInsert_full (a : Option Addr) (n cap x : Nat) (c : Option Addr) (m cap' : Nat) (ys : List Int) (w : World) (hx : x ≤ n) (hn : n ≤ 2000) (hm : m ≤ 1099511627776) (hy : SeqAt .i32 w c m ys) (hv : ys.all Lib.validRune = true) (hf : 2000 < n + m) :
    Calls Try.prog 9 #[.slice a n cap, .int .i64 x, .slice c m cap'] w fun e w' => e = .returned (.tuple #[.slice a n cap, .int .i64 3]) ∧ w = w' := by
  have A := all c m cap' ys w hm hy
  rw [hv] at A
  have AA := Lib.hid A
  have hf1 : (2000 : Int) < (n : Int) + (m : Int) := by omega
  have hx0 : ¬ (x : Int) < 0 := by omega
  have hx1 : ¬ (n : Int) < (x : Int) := by omega
  clear hy hv A
  go_enter Try.func9, Try.ntmps9
  go_wp2_with fail
  (with_reducible refine AA.out.mono ?_)
  rintro e w' ⟨rfl, rfl⟩
  go_wp2
  go_ret2
  exact ⟨rfl, rfl⟩

/-- A slice of runes in new memory: no error. -/
theorem ints_append (l m : List Int) : ints (l ++ m) = ints l ++ ints m := by simp [ints]

set_option maxHeartbeats 1000000 in
theorem refInsert_yes (a : Option Addr) (n cap x : Nat) (c : Option Addr) (m cap' : Nat) (ts ys : List Int) (w : World) (hx : x ≤ n) (hcap : n ≤ cap) (ht : SeqAt .i32 w a n ts) (hna : a = none → n = 0 ∧ cap = 0) (hy : SeqAt .i32 w c m ys) (hnc : c = none → m = 0 ∧ cap' = 0) (hv : ys.all Lib.validRune = true) (hf : n + m ≤ 2000) :
    Calls Try.prog 9 #[.slice a n cap, .int .i64 x, .slice c m cap'] w (Got w (ts.take x ++ ys ++ ts.drop x)) := by
  obtain ⟨i1, hi1, hy0, hy1, hy2⟩ := info_parts Try.info21
  have A := all c m cap' ys w (by omega) hy
  rw [hv] at A
  have AA := Lib.hid A
  have hf1 : ¬ (2000 : Int) < (n : Int) + (m : Int) := by omega
  have hx0 : ¬ (x : Int) < 0 := by omega
  have hx1 : ¬ (n : Int) < (x : Int) := by omega
  have hs1 := slice_to a n cap x (by omega)
  obtain ⟨a2, hs2, hn2, tr2⟩ := seq_from a n cap x hx hcap hna
  have TR := Lib.hid tr2
  have HT := Lib.hid ht
  have HY := Lib.hid hy
  have N1 := Lib.hid (show a = none → x = 0 ∧ cap = 0 from fun h => by have := hna h; omega)
  have N2 := Lib.hid hn2
  have N3 := Lib.hid hnc
  clear hy hv A ht hna hnc hn2 tr2
  have lx : (ints (ts.take x)).length = x := by rw [ints_len, List.length_take, HT.out.1]; omega
  have ly : (ints ys).length = m := by rw [ints_len, HY.out.1]
  have lz : (ints (ts.drop x)).length = n - x := by rw [ints_len, List.length_drop, HT.out.1]
  have LX := Lib.hid lx
  have LY := Lib.hid ly
  have LZ := Lib.hid lz
  clear lx ly lz
  go_enter Try.func9, Try.ntmps9
  go_wp2_with fail
  (with_reducible refine AA.out.mono ?_)
  rintro e w' ⟨rfl, rfl⟩
  go_wp2_with (at_builtin; refine wpList_append_in _ rfl _ _ 22 rfl w.heap.size 21 i1 _ 4 Try.underlying22 hi1 hy0 hy1 hy2 rfl _ 0 [] rfl (World.ownsRow_lit w #[] 0 (Nat.le_refl _) (by unfold maxLen; omega) rfl) a x cap (ints (ts.take x)) rfl N1.out LX.out (seq_holds (seq_take (HT.out.below ((Below.refl _ _).alloc (Nat.le_refl _) _)) x hx)) (ints_one _) (by unfold maxLen; omega) (by omega) (by simp) ?_)
  intro v2 w2 own2 gr2
  have O2 := Lib.hid own2
  have B2 := Lib.hid (show Below w.heap.size w w2 from ((Below.refl _ _).alloc (Nat.le_refl _) _).grown gr2 (by simp) (fun k hk => by simp [Value.ownBlock] at hk; omega))
  clear own2 gr2
  go_wp2_with (at_builtin; refine wpList_append_in _ rfl _ _ 22 rfl w.heap.size 21 i1 _ 4 Try.underlying22 hi1 hy0 hy1 hy2 rfl _ _ _ rfl O2.out c m cap' (ints ys) rfl N3.out LY.out (seq_holds (HY.out.below B2.out)) (ints_one _) (by unfold maxLen; omega) (by omega) B2.out.size ?_)
  intro v3 w3 own3 gr3
  have O3 := Lib.hid own3
  have B3 := Lib.hid (show Below w.heap.size w w3 from B2.out.grown gr3 B2.out.size (fun k hk => (O2.out.lt k hk).1))
  clear own3 gr3
  go_wp2_with (at_builtin; refine wpList_append_in _ rfl _ _ 22 rfl w.heap.size 21 i1 _ 4 Try.underlying22 hi1 hy0 hy1 hy2 rfl _ _ _ rfl O3.out a2 (n - x) (cap - x) (ints (ts.drop x)) rfl N2.out LZ.out (seq_holds (TR.out _ _ _ (HT.out.below B3.out))) (ints_one _) (by unfold maxLen; omega) (by omega) B3.out.size ?_)
  intro v4 w4 own4 gr4
  have O4 := Lib.hid own4
  have B4 := Lib.hid (show Below w.heap.size w w4 from B3.out.grown gr4 B3.out.size (fun k hk => (O3.out.lt k hk).1))
  clear own4 gr4
  go_wp2
  go_ret2
  have h := O4.out
  rw [← ints_append, ← ints_append, ← List.append_assoc] at h
  have e : x + m + (n - x) = (ts.take x ++ ys ++ ts.drop x).length := by
    have := LX.out; have := LY.out; have := LZ.out
    rw [ints_len] at *
    rw [List.length_append, List.length_append]; omega
  rw [e] at h
  exact ⟨v4, rfl, h, B4.out⟩

theorem refDelete_no (a : Option Addr) (n cap : Nat) (x y : Int) (w : World) (h : ¬ (0 ≤ x ∧ x ≤ y ∧ y ≤ n)) :
    Calls Try.prog 11 #[.slice a n cap, .int .i64 x, .int .i64 y] w fun e w' => e = .returned (.tuple #[.slice a n cap, .int .i64 1]) ∧ w = w' := by
  have A := refBetween a n cap x y w
  rw [decide_eq_false h] at A
  have AA := Lib.hid A
  clear A h
  go_enter Try.func11, Try.ntmps11
  go_wp2_with fail
  (with_reducible refine AA.out.mono ?_)
  rintro e w' ⟨rfl, rfl⟩
  go_wp2
  go_ret2
  exact ⟨rfl, rfl⟩

set_option maxHeartbeats 1000000 in
theorem refDelete_yes (a : Option Addr) (n cap x y : Nat) (ts : List Int) (w : World) (hxy : x ≤ y) (hy : y ≤ n) (hcap : n ≤ cap) (ht : SeqAt .i32 w a n ts) (hna : a = none → n = 0 ∧ cap = 0) (hf : n ≤ 2000) :
    Calls Try.prog 11 #[.slice a n cap, .int .i64 x, .int .i64 y] w (Got w (ts.take x ++ ts.drop y)) := by
  obtain ⟨i1, hi1, hy0, hy1, hy2⟩ := info_parts Try.info21
  have A := refBetween a n cap x y w
  rw [decide_eq_true (show (0 : Int) ≤ x ∧ (x : Int) ≤ y ∧ (y : Int) ≤ n by omega)] at A
  have AA := Lib.hid A
  have hs1 := slice_to a n cap x (by omega)
  obtain ⟨a2, hs2, hn2, tr2⟩ := seq_from a n cap y hy hcap hna
  have TR := Lib.hid tr2
  have HT := Lib.hid ht
  have N1 := Lib.hid (show a = none → x = 0 ∧ cap = 0 from fun h => by have := hna h; omega)
  have N2 := Lib.hid hn2
  have LX := Lib.hid (show (ints (ts.take x)).length = x * 1 by rw [ints_len, List.length_take, HT.out.1]; omega)
  have LZ := Lib.hid (show (ints (ts.drop y)).length = (n - y) * 1 by rw [ints_len, List.length_drop, HT.out.1]; omega)
  have LIT := Lib.hid (show ((w.alloc (Obj.cells #[] 21)).drew).ownsRow w.heap.size 21 1 (.slice (some ⟨w.heap.size, 0, none⟩) 0 0) 0 [] from World.ownsRow_lit w #[] 0 (Nat.le_refl _) (by unfold maxLen; omega) rfl)
  clear A ht hna hn2 tr2
  go_enter Try.func11, Try.ntmps11
  go_wp2_with fail
  (with_reducible refine AA.out.mono ?_)
  rintro e w' ⟨rfl, rfl⟩
  go_wp2
  go_region_law (first
    | (refine step_append_in rfl (.tmp 14) (.tmp 17) 22 rfl w.heap.size 21 i1 _ 1 4 Try.underlying22 hi1 hy0 hy1 hy2 rfl (by decide) (.slice (some ⟨w.heap.size, 0, none⟩) 0 0) 0 [] (by simp [Act.eval]) LIT.out a x cap (ints (ts.take x)) (by simp [Act.eval]) N1.out LX.out (seq_holds (seq_take (HT.out.below (((Below.refl _ _).alloc (Nat.le_refl _) _).drew)) x (by omega))) (ints_one _) (by unfold maxLen; omega) (by omega) (by simp) ?_; intro v2 w2 own2 gr2; have O2 := Lib.hid own2; have B2 := Lib.hid (show Below w.heap.size w w2 from (((Below.refl _ _).alloc (Nat.le_refl _) _).drew).grown gr2 (by simp) (fun k hk => by simp [Value.ownBlock] at hk; omega)); clear own2 gr2)
    | (refine step_append_in rfl (.tmp 18) (.tmp 21) 22 rfl w.heap.size 21 i1 _ 1 4 Try.underlying22 hi1 hy0 hy1 hy2 rfl (by decide) v2 _ _ (by simp [Act.eval]) O2.out a2 (n - y) (cap - y) (ints (ts.drop y)) (by simp [Act.eval]) N2.out LZ.out (seq_holds (TR.out _ _ _ (HT.out.below B2.out))) (ints_one _) (by unfold maxLen; omega) (by omega) B2.out.size ?_; intro v3 w3 own3 gr3; have O3 := Lib.hid own3; have B3 := Lib.hid (show Below w.heap.size w w3 from B2.out.grown gr3 B2.out.size (fun k hk => (O2.out.lt k hk).1)); clear own3 gr3))
  go_wp2
  go_ret2
  have h := O3.out
  rw [List.nil_append, ← ints_append] at h
  have e : 0 + x + (n - y) = (ts.take x ++ ts.drop y).length := by
    have := LX.out; have := LZ.out
    rw [ints_len] at *
    rw [List.length_append]; omega
  rw [e] at h
  exact ⟨v3, rfl, h, B3.out⟩
end Go.Proofs.Ytlijkejadjkbcaa
