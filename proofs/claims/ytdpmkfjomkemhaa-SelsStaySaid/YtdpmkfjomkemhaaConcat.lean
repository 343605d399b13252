/- The contract of slices.Concat at two slices of selections. Conditions: they lie in memory, not too many. -/
import Derived.Test.YtdpmkfjomkemhaaSteps
import Derived.Test.YtdpmkfjomkemhaaPost
import Derived.Test.YtdpmkfjomkemhaaGrow
import Derived.Deep.CutBlock
import Derived.Deep.CutRange
namespace Go.Proofs.Ytdpmkfjomkemhaa
open Go Go.RowKit

/-- Grow, of no slice. -/
theorem growAt (n : Nat) (w : World) (hn : n ≤ 10000) : Calls Try.prog 27 #[.slice none 0 0, .int .i64 n] w fun e w' => ∃ v, e = .returned v ∧ w'.ownsRow w.heap.size 24 2 v 0 [] ∧ Below w.heap.size w w' := by
  obtain ⟨i2, hi2, hy0, hy1, hy2⟩ := info_cut Try.info24
  by_cases hz : n = 0
  · subst hz
    exact (Any8.slices_Grow_room Try.growSel none 0 0 0 w (Nat.le_refl _) (by omega) (by omega) (Nat.le_refl _)).mono fun e w' ⟨he, hw⟩ => ⟨_, he, by subst hw; exact World.ownsRow_nil _ _ _ _, by subst hw; exact Below.refl _ _⟩
  · refine (Any8.slices_Grow_grow Try.growSel i2 (.agg #[.int .i64 0, .int .i64 0]) hi2 hy0 (by rw [hy1]; omega) none 0 0 n [] w (Nat.le_refl _) (by omega) (by rw [hy2]; omega) (by omega) (by simp) (fun _ => rfl) (fun a h => by cases h)).mono ?_
    rintro e w' ⟨he, hw⟩
    refine ⟨_, he, ?_, by subst hw; exact (Below.refl _ _).drew.alloc (Nat.le_refl _) _⟩
    subst hw
    have hG : n ≤ grownCap w (0 + n) 0 24 := by have := grownCap_ge w (0 + n) 0 24; omega
    have hM : grownCap w (0 + n) 0 24 ≤ maxLen := grownCap_le_maxLen w _ _ _ (by unfold maxLen; omega)
    refine ⟨by simp, .inr ⟨w.heap.size, grownCap w (0 + n) 0 24, _, rfl, Nat.le_refl _, heap_alloc_new _ _, Nat.zero_le _, hM, ?_, by simp⟩⟩
    simp only [Array.size_append, List.size_toArray, size_zeroCells]
    have h2 : (Value.agg #[.int .i64 0, .int .i64 0]).cells.size = 2 := rfl
    show ([] : List Value).length + (0 + n - 0) * (Value.agg #[.int .i64 0, .int .i64 0]).cells.size + (grownCap w (0 + n) 0 24 - (0 + n)) * (Value.agg #[.int .i64 0, .int .i64 0]).cells.size = grownCap w (0 + n) 0 24 * 2
    rw [h2]
    simp only [List.length_nil]
    omega

/-- append of what lies in memory or is none, in a plain region. -/
theorem plain_append_in {P : Program} {w : World} {ops : Array Oper} {rest : List Oper} {o : Oper} {a : Act} {Q : Exit → Act → World → Prop} (hgd : o.guard = none) (s x : Operand) (t : TypeId)
    (ho : o.op = .call { callee := .builtin .append, args := #[s, x], argTypes := #[t, t] })
    (base : Nat) (e : TypeId) (i : TypeInfo) (z : Value) (size bytes : Nat) (ht : P.underlying t = some (.slice e)) (hi : P.info? e = some i) (hz : i.zero = some z)
    (hsize : i.size = size) (hby : i.bytes = bytes) (hzs : z.cells.size = size) (hsz : 0 < size)
    (v : Value) (n : Nat) (xs : List Value) (hs : a.eval s = v) (hown : w.ownsRow base e size v n xs)
    (ao : Option Addr) (m c : Nat) (news : List Value) (hx : a.eval x = .slice ao m c) (hno : ao = none → m = 0 ∧ c = 0) (hl : news.length = m * size) (hnews : ∀ ad, ao = some ad → ∀ j u, news[j]? = some u → w.cell? (ad.add j) = some u) (h1 : ∀ u ∈ news, u.oneCell' = true)
    (h63 : n + m ≤ maxLen) (hbytes : (n + m) * bytes ≤ 140737488355328) (hbase : base ≤ w.heap.size)
    (h : ∀ v' w', w'.ownsRow base e size v' (n + m) (xs ++ news) → w.grownBy w' v.ownBlock → wpList P ops Q rest (a.put o.dst v') w') : wpList P ops Q (o :: rest) a w := by
  cases ao with
  | some ad => exact wpList_append_own _ hgd s x t ho base e i z size bytes ht hi hz hsize hby hzs hsz v n xs hs hown ad m c news hx hl (hnews ad rfl) h1 h63 hbytes hbase fun v' w' k1 k2 _ => h v' w' k1 k2
  | none =>
    obtain ⟨rfl, rfl⟩ := hno rfl
    obtain rfl : news = [] := List.eq_nil_of_length_eq_zero (by simpa using hl)
    refine wpList_append_own_none hgd s x t ho base e i size ht hi v n xs hs hown hx ?_
    exact h v w (by simpa using hown) ⟨rfl, rfl, rfl, Nat.le_refl _, fun _ _ _ => rfl⟩

set_option maxHeartbeats 4000000 in
set_option maxRecDepth 100000 in
theorem concatAt (t b n c : Nat) (a : Option Addr) (ls : List Sl) (s : Sl) (w : World) (hn : n ≤ 1000) (hno : a = none → n = 0 ∧ c = 0) (hl : RowAt Sl.cells 24 w a n ls) (hs : RowAt Sl.cells 24 w (some ⟨b, 0, none⟩) 1 [s])
    (ht : t < w.heap.size) (h0 : w.cell? ⟨t, 0, none⟩ = some (.slice a n c)) (h1 : w.cell? ⟨t, 1, none⟩ = some (.slice (some ⟨b, 0, none⟩) 1 1)) :
    Calls Try.prog 20 #[.slice (some ⟨t, 0, none⟩) 2 2] w fun e w' => ∃ v, e = .returned v ∧ w'.ownsRow w.heap.size 24 2 v (n + 1) (flat Sl.cells (ls ++ [s])) ∧ Below w.heap.size w w' := by
  obtain ⟨i2, hi2, hy0, hy1, hy2⟩ := info_cut Try.info24
  have HL := Lib.hid hl
  have HS := Lib.hid hs
  have HNO := Lib.hid hno
  clear hl hs hno
  have FL := Lib.hid (show (flat Sl.cells ls).length = n * 2 by rw [flat_len sl_len, HL.out.1])
  go_enter Try.func20, Try.ntmps20
  go_wp2
  go_loopw [3, 5, 11] (fun v3 _ i wr => ∃ k : Nat, k ≤ 2 ∧ i = .int .i64 k ∧ wr = w ∧ (k = 0 → v3 = .int .i64 0) ∧ (k = 1 → v3 = .int .i64 n) ∧ (k = 2 → v3 = .int .i64 ((n : Int) + 1))) (fun _ _ i _ => 2 - (RowKit.intOf i).toNat)
  case atStart => exact ⟨0, by omega, rfl, rfl, fun _ => rfl, by omega, by omega⟩
  case round =>
    obtain ⟨k, hk, rfl, hwr, e0, e1, e2⟩ := hrel
    have hwr' := hwr.symm
    clear hwr
    subst hwr'
    match k, hk with
    | 0, _ =>
      obtain rfl := e0 rfl
      clear e0 e1 e2
      have l0 : (0 : Int) < 2 := by omega
      go_wp2
      go_roundw
      case rel => exact ⟨1, by omega, by go_num, by first | rfl | trivial, by omega, fun _ => by first | rfl | go_num, by omega⟩
      case measure => (simp [RowKit.intOf]; try omega)
    | 1, _ =>
      obtain rfl := e1 rfl
      clear e0 e1 e2
      go_wp2
      go_roundw
      case rel => exact ⟨2, by omega, by go_num, by first | rfl | trivial, by omega, by omega, fun _ => by first | rfl | go_num⟩
      case measure => (simp [RowKit.intOf]; try omega)
    | 2, _ =>
      obtain rfl := e2 rfl
      clear e0 e1 e2
      have G := Lib.hid (growAt (n + 1) w (by omega))
      have en : ((n + 1 : Nat) : Int) = (n : Int) + 1 := by omega
      rw [en] at G
      clear en
      go_wp2_with fail
      (with_reducible refine G.out.mono ?_)
      rintro e w1 ⟨v1, rfl, own1, hb1⟩
      have O1 := Lib.hid own1
      have B1 := Lib.hid hb1
      clear own1 hb1 G
      go_wp2
      go_loopw [6, 8, 27] (fun v6 _ i wx => ∃ k : Nat, k ≤ 2 ∧ i = .int .i64 k ∧ Below w.heap.size w wx ∧ (k = 0 → wx.ownsRow w.heap.size 24 2 v6 0 []) ∧ (k = 1 → wx.ownsRow w.heap.size 24 2 v6 n (flat Sl.cells ls)) ∧ (k = 2 → wx.ownsRow w.heap.size 24 2 v6 (n + 1) (flat Sl.cells (ls ++ [s])))) (fun _ _ i _ => 2 - (RowKit.intOf i).toNat)
      case atStart => exact ⟨0, by omega, rfl, B1.out, fun _ => O1.out, by omega, by omega⟩
      case round =>
        obtain ⟨k, hk, rfl, hbx, e0, e1, e2⟩ := hrel
        have q0 := (hbx.cell (p := ⟨t, 0, none⟩) (by exact ht)).trans h0
        have q1 := (hbx.cell (p := ⟨t, 1, none⟩) (by exact ht)).trans h1
        have BX := Lib.hid hbx
        match k, hk with
        | 0, _ =>
          have O := Lib.hid (e0 rfl)
          clear e0 e1 e2 hbx
          go_wp2_with (at_builtin; refine plain_append_in rfl _ _ 22 rfl w.heap.size 24 i2 (.agg #[.int .i64 0, .int .i64 0]) 2 16 Try.underlying22 hi2 hy0 hy1 hy2 rfl (by decide) _ 0 [] rfl O.out a n c (flat Sl.cells ls) rfl HNO.out FL.out (row_holds (HL.out.below BX.out)) (sl_one ls) (by unfold maxLen; omega) (by omega) BX.out.size ?_)
          intro v5 w5 own5 gr5
          have Q5 := Lib.hid (show w5.ownsRow w.heap.size 24 2 v5 n (flat Sl.cells ls) by have h := own5; simpa using h)
          have B5 := Lib.hid (show Below w.heap.size w w5 from BX.out.grown gr5 BX.out.size (fun j hj => (O.out.lt j hj).1))
          clear own5 gr5
          go_wp2_with fail
          go_roundw
          case rel => exact ⟨1, by omega, by go_num, B5.out, by omega, fun _ => Q5.out, by omega⟩
          case measure => (simp [RowKit.intOf]; try omega)
        | 1, _ =>
          have O := Lib.hid (e1 rfl)
          clear e0 e1 e2 hbx
          go_wp2_with (at_builtin; refine plain_append_in rfl _ _ 22 rfl w.heap.size 24 i2 (.agg #[.int .i64 0, .int .i64 0]) 2 16 Try.underlying22 hi2 hy0 hy1 hy2 rfl (by decide) _ n (flat Sl.cells ls) rfl O.out (some ⟨b, 0, none⟩) 1 1 (flat Sl.cells [s]) rfl (fun h => by cases h) rfl (row_holds (HS.out.below BX.out)) (sl_one [s]) (by unfold maxLen; omega) (by omega) BX.out.size ?_)
          intro v5 w5 own5 gr5
          have Q5 := Lib.hid (show w5.ownsRow w.heap.size 24 2 v5 (n + 1) (flat Sl.cells (ls ++ [s])) by rw [flat_append]; exact own5)
          have B5 := Lib.hid (show Below w.heap.size w w5 from BX.out.grown gr5 BX.out.size (fun j hj => (O.out.lt j hj).1))
          clear own5 gr5
          go_wp2_with fail
          go_roundw
          case rel => exact ⟨2, by omega, by go_num, B5.out, by omega, by omega, fun _ => Q5.out⟩
          case measure => (simp [RowKit.intOf]; try omega)
        | 2, _ =>
          have O := Lib.hid (e2 rfl)
          clear e0 e1 e2 hbx
          go_wp2
          go_ret
          exact ⟨_, rfl, O.out, BX.out⟩
end Go.Proofs.Ytdpmkfjomkemhaa
