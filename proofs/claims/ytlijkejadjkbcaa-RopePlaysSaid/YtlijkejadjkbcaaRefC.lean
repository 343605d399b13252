/- The contracts of the reference's Line, Bytes, Starts. -/
import Derived.Test.YtlijkejadjkbcaaRefA
namespace Go.Proofs.Ytlijkejadjkbcaa
open Go Go.RowKit

theorem refBytes (a : Option Addr) (n cap x : Nat) (ts : List Int) (w : World) (hx : x ≤ n) (hcap : n ≤ cap) (hn : n ≤ 2000) (ht : SeqAt .i32 w a n ts) :
    Calls Try.prog 19 #[.slice a n cap, .int .i64 x] w fun e w' => e = .returned (.int .i64 (encCells (ts.take x)).length) ∧ Below w.heap.size w w' := by
  have hs1 := slice_to a n cap x (by omega)
  have RE := Lib.hid (refEncode a x cap (ts.take x) w (by omega) (seq_take ht x hx))
  clear ht
  go_enter Try.func19, Try.ntmps19
  go_wp2_with fail
  (with_reducible refine RE.out.mono ?_)
  rintro e w1 ⟨v, rfl, own, b1⟩
  obtain ⟨a1, c1, rfl⟩ := own_form2 own
  clear own
  go_wp2
  go_ret
  exact ⟨rfl, b1⟩

theorem refLine_none (a : Option Addr) (n cap : Nat) (w : World) :
    Calls Try.prog 18 #[.slice a n cap, .int .i64 0] w fun e w' => e = .returned (.int .i64 0) ∧ w = w' := by
  go_enter Try.func18, Try.ntmps18
  go_wp2
  go_loop [5, 6] (fun v i => v = .int .i64 0 ∧ i = .int .i64 0) (fun _ _ => 0)
  case atStart => exact ⟨rfl, rfl⟩
  case round =>
    obtain ⟨rfl, rfl⟩ := hrel
    go_wp2
    go_ret
    exact ⟨rfl, rfl⟩

theorem refLine_cells (b off n cap x : Nat) (ts : List Int) (w : World) (hx : x ≤ n) (hn : n ≤ 2000) (hl : ts.length = n)
    (hc : ∀ j z, ts[j]? = some z → w.cell? ⟨b, off + j, none⟩ = some (.int .i32 z)) :
    Calls Try.prog 18 #[.slice (some ⟨b, off, none⟩) n cap, .int .i64 x] w fun e w' => e = .returned (.int .i64 (brk (ts.take x))) ∧ w = w' := by
  have HC := Lib.hid hc
  have HL := Lib.hid hl
  clear hc hl
  go_enter Try.func18, Try.ntmps18
  go_wp2
  go_loop [5, 6] (fun v i => ∃ k : Nat, k ≤ x ∧ i = .int .i64 k ∧ v = .int .i64 (brk (ts.take k))) (fun _ i => x - (RowKit.intOf i).toNat)
  case atStart => exact ⟨0, Nat.zero_le _, rfl, rfl⟩
  case round =>
    obtain ⟨k, hk, rfl, rfl⟩ := hrel
    by_cases hlt : k < x
    · obtain ⟨z, hz⟩ : ∃ z, ts[k]? = some z := ⟨ts[k]'(by have := HL.out; omega), by simp⟩
      have c1 := HC.out k z hz
      have hltz : (k : Int) < (x : Int) := by omega
      have hk0 : (0 : Int) ≤ (k : Int) := by omega
      have HS := Lib.hid (brk_snoc ts k z hz)
      have hbk : brk (ts.take k) ≤ k := Nat.le_trans (brk_le _) (List.length_take_le _ _)
      obtain ⟨q, hq⟩ : ∃ q, q = brk (ts.take k) := ⟨_, rfl⟩
      have HS2 := HS.out
      rw [← hq] at HS2 hbk ⊢
      have HSS := Lib.hid HS2
      clear hz hq HS2 HS
      by_cases h10 : z = 10
      · subst h10
        go_wp2
        go_round
        case rel => exact ⟨k + 1, by omega, by go_num, by rw [HSS.out]; simp⟩
        case measure => simp [RowKit.intOf]; omega
      · go_wp2
        go_round
        case rel => exact ⟨k + 1, by omega, by go_num, by rw [HSS.out]; simp [h10]⟩
        case measure => simp [RowKit.intOf]; omega
    · have hk' : k = x := by omega
      have hltz : ¬ (k : Int) < (x : Int) := by omega
      have HK := Lib.hid hk'
      clear hk'
      go_wp2
      go_ret
      exact ⟨by rw [HK.out]; rfl, rfl⟩

theorem refLine (a : Option Addr) (n cap x : Nat) (ts : List Int) (w : World) (hx : x ≤ n) (hn : n ≤ 2000) (h : SeqAt .i32 w a n ts) :
    Calls Try.prog 18 #[.slice a n cap, .int .i64 x] w fun e w' => e = .returned (.int .i64 (brk (ts.take x))) ∧ w = w' := by
  obtain ⟨hl, rfl | ⟨b, off, rfl, hlt, hc⟩⟩ := h
  · obtain rfl : x = 0 := by omega
    exact refLine_none a 0 cap w
  · exact refLine_cells b off n cap x ts w hx hn hl hc

/-- Where lines begin: place j of the list of starts is beh ts j. -/
def starts (ts : List Int) : List Int := (List.range (brk ts + 1)).map fun j => (beh ts j : Int)
def ints64 (zs : List Int) : List Value := zs.map fun z => Value.int .i64 z

theorem beh_take (ts : List Int) (k j : Nat) (h : j ≤ brk (ts.take k)) : beh (ts.take k) j = beh ts j := by
  have e : ts = ts.take k ++ ts.drop k := (List.take_append_drop k ts).symm
  have := beh_append (ts.take k) (ts.drop k) j
  rw [if_pos h, ← e] at this
  exact this.symm
theorem beh_last (ts : List Int) (k : Nat) (hk : ts[k]? = some 10) : beh (ts.take (k + 1)) (brk (ts.take k) + 1) = k + 1 := by
  obtain ⟨hlt, he⟩ := List.getElem?_eq_some_iff.1 hk
  rw [List.take_add_one, hk]
  have := beh_append (ts.take k) [10] (brk (ts.take k) + 1)
  rw [if_neg (by omega)] at this
  simp only [Option.toList]
  rw [this, List.length_take, Nat.min_eq_left (Nat.le_of_lt hlt), Nat.add_sub_cancel_left]
  rfl
theorem starts_snoc_new (ts : List Int) (k : Nat) (hk : ts[k]? = some 10) : starts (ts.take (k + 1)) = starts (ts.take k) ++ [((k + 1 : Nat) : Int)] := by
  have hb := brk_snoc ts k 10 hk
  rw [if_pos rfl] at hb
  unfold starts
  rw [hb, List.range_succ, List.map_append]
  congr 1
  · apply List.map_congr_left
    intro j hj
    rw [List.mem_range] at hj
    rw [beh_take ts (k + 1) j (by omega), beh_take ts k j (by omega)]
  · simp only [List.map_cons, List.map_nil, List.cons.injEq, and_true]
    rw [beh_last ts k hk]
theorem starts_snoc_old (ts : List Int) (k : Nat) (z : Int) (hk : ts[k]? = some z) (hz : z ≠ 10) : starts (ts.take (k + 1)) = starts (ts.take k) := by
  have hb := brk_snoc ts k z hk
  rw [if_neg hz, Nat.add_zero] at hb
  unfold starts
  rw [hb]
  apply List.map_congr_left
  intro j hj
  rw [List.mem_range] at hj
  rw [beh_take ts (k + 1) j (by omega), beh_take ts k j (by omega)]
theorem starts_len (ts : List Int) : (starts ts).length = brk ts + 1 := by simp [starts]
theorem starts_get (ts : List Int) (j : Nat) (h : j ≤ brk ts) : (ints64 (starts ts))[j]? = some (.int .i64 (beh ts j)) := by
  simp only [ints64, starts, List.getElem?_map]
  rw [List.getElem?_range (by omega)]
  rfl
theorem starts_nil : starts [] = [0] := rfl

theorem Try.info3 : (Try.prog.info? 3).map (fun i => (i.zero, i.size, i.bytes)) = some (some (.int .i64 0), 1, 8) := by kernel_rfl
theorem new_one (w : World) (x : Int) : ∀ j u, [Value.int .i64 x][j]? = some u → (w.alloc (Obj.cells #[Value.int .i64 x] 3)).cell? ((⟨w.heap.size, 0, none⟩ : Addr).add j) = some u := new_cells w [Value.int .i64 x] 3

/-- What Starts leaves. -/
def Begun (w : World) (ts : List Int) (e : Ending) (w' : World) : Prop :=
  ∃ v, e = .returned v ∧ w'.ownsRow w.heap.size 3 1 v (brk ts + 1) (ints64 (starts ts)) ∧ Below w.heap.size w w'

set_option maxHeartbeats 1000000 in
theorem refStarts_cells (b off n cap : Nat) (ts : List Int) (w : World) (hn : n ≤ 2000) (hl : ts.length = n) (hlt : b < w.heap.size)
    (hc : ∀ j z, ts[j]? = some z → w.cell? ⟨b, off + j, none⟩ = some (.int .i32 z)) :
    Calls Try.prog 21 #[.slice (some ⟨b, off, none⟩) n cap] w (Begun w ts) := by
  obtain ⟨i1, hi1, hy0, hy1, hy2⟩ := info_parts Try.info3
  have HC := Lib.hid hc
  have HL := Lib.hid hl
  clear hc hl
  go_enter Try.func21, Try.ntmps21
  go_wp2_with (at_builtin; refine wpList_append_own _ rfl _ _ 45 rfl w.heap.size 3 i1 _ 1 8 Try.underlying45 hi1 hy0 hy1 hy2 rfl (by decide) (.slice none 0 0) 0 [] rfl (World.ownsRow_nil _ _ _ _) ⟨w.heap.size, 0, none⟩ 1 1 [.int .i64 0] rfl rfl (new_one w 0) (by intro u hu; rw [List.mem_singleton.1 hu]; rfl) (by unfold maxLen; omega) (by omega) (by simp) ?_)
  intro v2 w2 own2 gr2 _
  have O2 := Lib.hid own2
  have B2 := Lib.hid (show Below w.heap.size w w2 from ((Below.refl _ _).alloc (Nat.le_refl _) _).grown gr2 (by simp) (fun k hk => by cases hk))
  clear own2 gr2
  go_wp2_with fail
  go_loopw [3, 4] (fun v i wr => ∃ k : Nat, k ≤ n ∧ i = .int .i64 k ∧ wr.ownsRow w.heap.size 3 1 v (brk (ts.take k) + 1) (ints64 (starts (ts.take k))) ∧ Below w.heap.size w wr) (fun _ i _ => n - (intOf i).toNat)
  case atStart => exact ⟨0, Nat.zero_le _, rfl, O2.out, B2.out⟩
  case round =>
    obtain ⟨k, hk, rfl, hown, hbel⟩ := hrel
    by_cases hltk : k < n
    · obtain ⟨z, hz⟩ : ∃ z, ts[k]? = some z := ⟨ts[k]'(by have := HL.out; omega), by simp⟩
      have c1 : wr.cell? ⟨b, off + k, none⟩ = some (.int .i32 z) := (hbel.cell (by exact hlt)).trans (HC.out k z hz)
      have hk0 : (0 : Int) ≤ (k : Int) := by omega
      have hkn : (k : Int) < (n : Int) := by omega
      have hbk : brk (ts.take k) ≤ k := Nat.le_trans (brk_le _) (List.length_take_le _ _)
      obtain ⟨q, hq⟩ : ∃ q, q = brk (ts.take k) := ⟨_, rfl⟩
      rw [← hq] at hown hbk
      have Q := Lib.hid hq
      have Z := Lib.hid hz
      have O := Lib.hid hown
      have B := Lib.hid hbel
      have hwz := hbel.size
      clear hz hq hown hbel
      by_cases h10 : z = 10
      · subst h10
        go_wp2_with (at_builtin; refine wpList_append_own _ rfl _ _ 45 rfl w.heap.size 3 i1 _ 1 8 Try.underlying45 hi1 hy0 hy1 hy2 rfl (by decide) _ _ _ rfl (O.out.alloc _) ⟨wr.heap.size, 0, none⟩ 1 1 [.int .i64 ((k : Int) + 1)] rfl rfl (new_one wr _) (by intro u hu; rw [List.mem_singleton.1 hu]; rfl) (by unfold maxLen; omega) (by omega) (by simp; omega) ?_)
        intro v3 w3 own3 gr3 _
        have O3 := Lib.hid own3
        have B3 := Lib.hid (show Below w.heap.size w w3 from (B.out.alloc hwz _).grown gr3 (by simp; omega) (fun k hk => (O.out.lt k hk).1))
        clear own3 gr3
        go_wp2
        go_roundw
        case rel =>
          refine ⟨k + 1, by omega, by go_num, ?_, B3.out⟩
          have h := O3.out
          have hb := brk_snoc ts k 10 Z.out
          rw [if_pos rfl, ← Q.out] at hb
          rw [starts_snoc_new ts k Z.out, hb]
          rw [show ints64 (starts (ts.take k) ++ [((k + 1 : Nat) : Int)]) = ints64 (starts (ts.take k)) ++ [.int .i64 ((k : Int) + 1)] by simp [ints64]]
          exact h
        case measure => simp [intOf]; omega
      · go_wp2
        go_roundw
        case rel =>
          refine ⟨k + 1, by omega, by go_num, ?_, B.out⟩
          have hb := brk_snoc ts k z Z.out
          rw [if_neg h10, Nat.add_zero, ← Q.out] at hb
          rw [starts_snoc_old ts k z Z.out h10, hb]
          exact O.out
        case measure => simp [intOf]; omega
    · have e : ts.take k = ts := List.take_of_length_le (by have := HL.out; omega)
      rw [e] at hown
      have O := Lib.hid hown
      have hkn : ¬ (k : Int) < (n : Int) := by omega
      clear hown e
      go_wp2
      go_ret
      exact ⟨_, rfl, O.out, hbel⟩

theorem refStarts_none (a : Option Addr) (cap : Nat) (w : World) : Calls Try.prog 21 #[.slice a 0 cap] w (Begun w []) := by
  obtain ⟨i1, hi1, hy0, hy1, hy2⟩ := info_parts Try.info3
  go_enter Try.func21, Try.ntmps21
  go_wp2_with (at_builtin; refine wpList_append_own _ rfl _ _ 45 rfl w.heap.size 3 i1 _ 1 8 Try.underlying45 hi1 hy0 hy1 hy2 rfl (by decide) (.slice none 0 0) 0 [] rfl (World.ownsRow_nil _ _ _ _) ⟨w.heap.size, 0, none⟩ 1 1 [.int .i64 0] rfl rfl (new_one w 0) (by intro u hu; rw [List.mem_singleton.1 hu]; rfl) (by unfold maxLen; omega) (by omega) (by simp) ?_)
  intro v2 w2 own2 gr2 _
  have O2 := Lib.hid own2
  have B2 := Lib.hid (show Below w.heap.size w w2 from ((Below.refl _ _).alloc (Nat.le_refl _) _).grown gr2 (by simp) (fun k hk => by cases hk))
  clear own2 gr2
  go_wp2_with fail
  go_loopw [3, 4] (fun v i wr => v = v2 ∧ i = .int .i64 0 ∧ wr = w2) (fun _ _ _ => 0)
  case atStart => exact ⟨rfl, rfl, rfl⟩
  case round =>
    obtain ⟨rfl, rfl, rfl⟩ := hrel
    go_wp2
    go_ret
    exact ⟨_, rfl, O2.out, B2.out⟩

theorem refStarts (a : Option Addr) (n cap : Nat) (ts : List Int) (w : World) (hn : n ≤ 2000) (h : SeqAt .i32 w a n ts) : Calls Try.prog 21 #[.slice a n cap] w (Begun w ts) := by
  obtain ⟨hl, rfl | ⟨b, off, rfl, hlt, hc⟩⟩ := h
  · obtain rfl : ts = [] := List.eq_nil_of_length_eq_zero hl
    exact refStarts_none a cap w
  · exact refStarts_cells b off n cap ts w hn hl hlt hc
end Go.Proofs.Ytlijkejadjkbcaa
