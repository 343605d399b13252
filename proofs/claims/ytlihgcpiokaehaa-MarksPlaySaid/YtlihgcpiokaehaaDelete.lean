/- The contract of slices.Delete of one range. Conditions: the ranges lie in a row of the call's own. -/
import Derived.Test.YtlihgcpiokaehaaEdit
namespace Go.Proofs.Ytlihgcpiokaehaa
open Go Go.RowKit

def zeros5 : List Value := [.int .i64 0, .int .i64 0, .bool false, .bool false, .int .i64 0]

theorem run_clear1 (w : World) (ty : TypeId) (b o c : Nat) (hc : ∀ j, j < 5 → (w.cell? ⟨b, o + j, none⟩).isSome = true) (hf : ∀ j, j < 5 → w.frozen? ⟨b, o + j, none⟩ = false) :
    (Builtin.clear_ #[65] ty #[.slice (some ⟨b, o, none⟩) 1 c]).run Try.prog w = .ok (.tuple #[]) (w.setCells b o zeros5) := by
  have hst := run_storeCells_cells (P := Try.prog) b o zeros5 0 w (by simpa [zeros5] using hc) (by simpa [zeros5] using hf) (by intro v hv; simp [zeros5] at hv; rcases hv with rfl | rfl | rfl <;> rfl)
  simp only [Nat.add_zero] at hst
  have hz : ∀ w, (zeroValue 69).run Try.prog w = .ok (.agg #[.int .i64 0, .int .i64 0, .bool false, .bool false, .int .i64 0]) w := fun w => by kernel_rfl
  have hzc : (Builtin.zeroCells (Value.agg #[.int .i64 0, .int .i64 0, .bool false, .bool false, .int .i64 0]).cells 1).toList = zeros5 := by kernel_rfl
  simp [Builtin.clear_, run_underlying Try.underlying65, hz, hzc, hst]

/-- Values laid laidO a list. -/
def laidO (xs : List Value) : Nat → List Value → List Value
  | _, [] => xs
  | k, v :: r => laidO (xs.set k v) (k + 1) r
theorem laidO_len (vs : List Value) : ∀ (xs : List Value) (k : Nat), (laidO xs k vs).length = xs.length := by
  induction vs with
  | nil => intro xs k; rfl
  | cons v r ih => intro xs k; rw [laidO, ih, List.length_set]
theorem laidO_take (vs : List Value) : ∀ (xs : List Value) (k j : Nat), j ≤ k → (laidO xs k vs).take j = xs.take j := by
  induction vs with
  | nil => intro xs k j _; rfl
  | cons v r ih =>
    intro xs k j h
    rw [laidO, ih _ _ _ (by omega), List.take_set]
    rw [List.set_eq_of_length_le]
    rw [List.length_take]; omega
theorem laidO_at (vs : List Value) : ∀ (xs : List Value) (k j : Nat), j < vs.length → k + j < xs.length → (laidO xs k vs)[k + j]? = vs[j]? := by
  induction vs with
  | nil => intro xs k j h; simp at h
  | cons v r ih =>
    intro xs k j h hl
    cases j with
    | zero =>
      have e : (laidO (xs.set k v) (k + 1) r).take (k + 1) = (xs.set k v).take (k + 1) := laidO_take r _ _ _ (Nat.le_refl _)
      have e2 := congrArg (fun l => l[k]?) e
      simp only [List.getElem?_take] at e2
      rw [if_pos (by omega), if_pos (by omega), List.getElem?_set_self (by omega)] at e2
      rw [laidO]
      simpa using e2
    | succ j =>
      rw [laidO, show k + (j + 1) = k + 1 + j by omega, ih _ _ _ (by simpa using h) (by rw [List.length_set]; omega)]
      simp
/-- One taken out of a list, as it lies in memory. -/
theorem laidO_erase {xs : List Value} {K k n : Nat} (hl : xs.length = n * K) (hk : k < n) : (laidO xs (k * K) (xs.drop ((k + 1) * K))).take ((n - 1) * K) = xs.take (k * K) ++ xs.drop ((k + 1) * K) := by
  have h1 : (k + 1) * K ≤ n * K := Nat.mul_le_mul_right _ (by omega)
  have h2 : (n - 1) * K + K = n * K := by rw [← Nat.succ_mul]; congr 1; omega
  have h3 : (k + 1) * K = k * K + K := Nat.succ_mul _ _
  apply List.ext_getElem?
  intro j
  rw [List.getElem?_take]
  by_cases hj : j < (n - 1) * K
  · rw [if_pos hj]
    by_cases hjk : j < k * K
    · have e := congrArg (fun l => l[j]?) (laidO_take (xs.drop ((k + 1) * K)) xs (k * K) (k * K) (Nat.le_refl _))
      simp only [List.getElem?_take] at e
      rw [if_pos hjk, if_pos hjk] at e
      rw [e, List.getElem?_append_left (by rw [List.length_take]; omega), List.getElem?_take, if_pos hjk]
    · have e := laidO_at (xs.drop ((k + 1) * K)) xs (k * K) (j - k * K) (by rw [List.length_drop]; omega) (by omega)
      rw [show k * K + (j - k * K) = j by omega] at e
      rw [e, List.getElem?_append_right (by rw [List.length_take]; omega), List.length_take]
      congr 1
      omega
  · rw [if_neg hj]
    symm
    rw [List.getElem?_eq_none_iff, List.length_append, List.length_take, List.length_drop]
    omega
theorem flat_erase (rs : List Rg) (k : Nat) : flat (rs.eraseIdx k) = (flat rs).take (k * 5) ++ (flat rs).drop ((k + 1) * 5) := by
  rw [List.eraseIdx_eq_take_drop_succ, flat_append, flat_take, flat_drop]

theorem own_setCells {B g cap n : Nat} (vs : List Value) : ∀ (w : World) (xs : List Value) (k : Nat), w.ownsRow B 69 5 (.slice (some ⟨g, 0, none⟩) n cap) n xs →
    (w.setCells g k vs).ownsRow B 69 5 (.slice (some ⟨g, 0, none⟩) n cap) n (laidO xs k vs) ∧ w.grownBy (w.setCells g k vs) (some g) := by
  induction vs with
  | nil => intro w xs k h; exact ⟨h, rfl, rfl, rfl, Nat.le_refl _, fun _ _ _ => rfl⟩
  | cons v r ih =>
    intro w xs k h
    obtain ⟨h1, h2⟩ := h.stored k v
    obtain ⟨h3, h4⟩ := ih _ _ (k + 1) h1
    exact ⟨h3, h4.os.trans h2.os, h4.tape.trans h2.tape, h4.output.trans h2.output, Nat.le_trans h2.size h4.size, fun b hb hn => (h4.block b (Nat.lt_of_lt_of_le hb h2.size) hn).trans (h2.block b hb hn)⟩

theorem own_shrink {w : World} {B g n cap : Nat} {xs : List Value} (h : w.ownsRow B 69 5 (.slice (some ⟨g, 0, none⟩) n cap) n xs) (m : Nat) (hm : m ≤ n) : w.ownsRow B 69 5 (.slice (some ⟨g, 0, none⟩) m cap) m (xs.take (m * 5)) := by
  refine ⟨by rw [List.length_take, h.1]; omega, ?_⟩
  rcases h.2 with ⟨h1, _⟩ | ⟨g', c, cur, e, hB, hg, hn, hc, hs, ht⟩
  · cases h1
  · cases e
    refine .inr ⟨g, cap, cur, rfl, hB, hg, by omega, hc, hs, ?_⟩
    rw [← ht, List.take_take]
    congr 1
    omega

set_option maxHeartbeats 4000000 in
theorem delete (B g n c k : Nat) (rs : List Rg) (w : World) (hO : w.ownsRow B 69 5 (.slice (some ⟨g, 0, none⟩) n c) n (flat rs)) (hk : k < n) (hn : n ≤ 60) (hnc : n ≤ c) :
    Calls Try.prog 29 #[.slice (some ⟨g, 0, none⟩) n c, .int .i64 k, .int .i64 ((k : Int) + 1)] w fun e w' => e = .returned (.slice (some ⟨g, 0, none⟩) (n - 1) c) ∧
      w' = (w.drew.setCells g (k * 5) (flat (rs.drop (k + 1)))).setCells g ((n - 1) * 5) zeros5 := by
  obtain ⟨q, rfl⟩ : ∃ q, n = k + q + 1 := ⟨n - k - 1, by omega⟩
  obtain ⟨i0, hi, hz0, hz1, hz2⟩ := info_parts Try.info69
  have hl : (flat rs).length = (k + q + 1) * 5 := hO.1
  have HL := Lib.hid hl
  have HO := Lib.hid hO
  obtain ⟨news, hnews⟩ : ∃ news, news = flat (rs.drop (k + 1)) := ⟨_, rfl⟩
  have hlen : news.length = q * 5 := by rw [hnews, flat_drop, List.length_drop, hl]; omega
  obtain ⟨A, hA, hsrc⟩ : ∃ A : Addr, (if c = k + 1 then some (⟨g, 0, none⟩ : Addr) else some ⟨g, (k + 1) * 5, none⟩) = some A ∧ Hid (∀ t u, news[t]? = some u → w.drew.cell? (A.add t) = some u) := by
    by_cases h : c = k + 1
    · refine ⟨⟨g, 0, none⟩, by simp [h], Lib.hid fun t u hu => ?_⟩
      have h0 : news.length = 0 := by rw [hlen]; omega
      rw [List.length_eq_zero_iff.1 h0] at hu
      simp at hu
    · refine ⟨⟨g, (k + 1) * 5, none⟩, by simp [h], Lib.hid fun t u hu => ?_⟩
      rw [hnews, flat_drop, List.getElem?_drop] at hu
      have := HO.out.cells (g := g) rfl _ u hu
      rw [Addr.add_lit, Nat.zero_add] at this
      rw [Addr.add_lit]
      exact this
  have s2 : Hid (∀ u ∈ news, u.oneCell' = true) := Lib.hid (by rw [hnews]; exact flat_cells_one _)
  have s3 : Hid (∀ t, t < news.length → (w.drew.cell? ⟨g, 0 + k * 5 + t, none⟩).isSome = true ∧ w.drew.frozen? ⟨g, 0 + k * 5 + t, none⟩ = false) := Lib.hid fun t ht => by
    rw [hlen] at ht
    rw [Nat.zero_add]
    refine ⟨?_, HO.out.frozenAt _⟩
    show (w.cell? _).isSome = true
    rw [HO.out.cellAt (k * 5 + t) (by omega), List.getElem?_eq_getElem (by omega)]
    rfl
  obtain ⟨W1, hW1⟩ : ∃ W1, W1 = w.drew.setCells g (0 + k * 5) news := ⟨_, rfl⟩
  have HW := Lib.hid hW1
  have o1 := (own_setCells news w.drew (flat rs) (k * 5) hO.drew).1
  rw [show k * 5 = 0 + k * 5 by omega, ← hW1] at o1
  have hcl : ∀ ty, (Builtin.clear_ #[65] ty #[.slice (some ⟨g, (k + q) * 5, none⟩) 1 (c - (k + q))]).run Try.prog W1 = .ok (.tuple #[]) (W1.setCells g ((k + q) * 5) zeros5) := fun ty =>
    run_clear1 W1 ty g ((k + q) * 5) _ (fun j hj => by rw [o1.cellAt _ (by omega), List.getElem?_eq_getElem (by have := o1.1; omega)]; rfl) (fun j hj => o1.frozenAt _)
  have HN := Lib.hid hnews
  have h1 : (0 : Int) ≤ (k : Int) := by omega
  have h2 : (k : Int) + 1 ≤ ((k + q + 1 : Nat) : Int) := by omega
  have h3 : ((k + q + 1 : Nat) : Int) ≤ (c : Int) := by omega
  have h4 : (k : Int) + 1 ≤ (c : Int) := by omega
  have h5 : (k : Int) ≤ (c : Int) := by omega
  have h6 : (0 : Int) ≤ (k : Int) + 1 := by omega
  have h7 : (k : Int) ≤ (k : Int) + (q : Int) := by omega
  have h8 : (k : Int) + (q : Int) ≤ (k : Int) + (q : Int) + 1 := by omega
  have h9 : (0 : Int) ≤ (k : Int) + (q : Int) := by omega
  have h10 : (k : Int) + (q : Int) + 1 ≤ (c : Int) := by omega
  clear hW1 o1 hO hl hnews
  go_enter Try.func29, Try.ntmps29
  go_wp2_with fail
  go_region_law (first
    | (refine step_append_room rfl (.tmp 22) (.tmp 25) 65 rfl 69 i0 5 Try.underlying65 hi hz1 g 0 k c (by simp [Act.eval, Act.put]) A q (c - (k + 1)) news (by simp [Act.eval, Act.put]) hlen hsrc.out s2.out (by omega) s3.out ?_; rw [← HW.out]))
  go_wp2
  go_ret
  refine ⟨by rw [Nat.add_sub_cancel]; rfl, ?_⟩
  rw [HW.out, HN.out, Nat.zero_add, Nat.add_sub_cancel]

theorem remove_no (mb B last : Nat) (rs : List Rg) (x : Int) (w : World) (h : MarksAt w B mb rs last) (hB : B ≤ w.heap.size) (hx : idz x rs = -1) :
    Calls Try.prog 15 #[.pointer (some ⟨mb, 0, none⟩), .int .i64 x] w (Changed w B mb rs last (.int .i64 4)) := by
  have I := index mb B last rs x w h
  rw [hx] at I
  have HI := Lib.hid I
  have HM := Lib.hid h
  clear I h hx
  go_enter Try.func15, Try.ntmps15
  go_wp2_with fail
  (with_reducible refine HI.out.mono ?_)
  rintro e w1 ⟨rfl, b⟩
  have FIN := Lib.hid (show Changed w B mb rs last (.int .i64 4) (.returned (.int .i64 4)) w1 from ⟨rfl, HM.out.below b, Kept.of b, b.mono hB⟩)
  clear b
  go_wp2
  go_ret
  exact FIN.out

theorem eraseIdx_len (rs : List Rg) (k : Nat) (h : k < rs.length) : (rs.eraseIdx k).length = rs.length - 1 := by
  rw [List.length_eraseIdx, if_pos h]

set_option maxHeartbeats 2000000 in
theorem remove_yes (mb B last : Nat) (rs : List Rg) (x : Int) (k : Nat) (w : World) (h : MarksAt w B mb rs last) (hB : B ≤ mb) (hx : idz x rs = k) (hk : k < rs.length) :
    Calls Try.prog 15 #[.pointer (some ⟨mb, 0, none⟩), .int .i64 x] w (Changed w B mb (rs.eraseIdx k) last (.int .i64 0)) := by
  have I := index mb B last rs x w h
  rw [hx] at I
  have HI := Lib.hid I
  have HM := Lib.hid h
  have hmb := h.lt
  have h60 := h.len
  clear I h hx
  go_enter Try.func15, Try.ntmps15
  go_wp2_with fail
  (with_reducible refine HI.out.mono ?_)
  rintro e w1 ⟨rfl, b⟩
  have M1 := Lib.hid (HM.out.below b)
  have B1 := Lib.hid b
  clear b
  obtain ⟨a, c, r1, o1, hc, _, _⟩ := M1.out.opened
  rcases o1.2 with ⟨_, h0⟩ | ⟨g, cap, cur, e, hBg, hg, _⟩
  · omega
  cases e
  have DL := Lib.hid (delete B g rs.length c k rs w1 o1 hk h60 hc)
  have m0 : w1.cell? ⟨mb, 0, none⟩ = some (.slice (some ⟨g, 0, none⟩) rs.length c) := r1.cell (i := 0) (by omega)
  obtain ⟨o2, g2⟩ := own_setCells (flat (rs.drop (k + 1))) w1.drew (flat rs) (k * 5) o1.drew
  obtain ⟨o3, g3⟩ := own_setCells zeros5 _ _ ((rs.length - 1) * 5) o2
  have o4 := own_shrink o3 (rs.length - 1) (by omega)
  rw [laidO_take _ _ _ _ (Nat.le_refl _), flat_drop, laidO_erase (K := 5) o1.1 hk, ← flat_erase] at o4
  rw [← flat_drop] at o4
  have hgb : Below B w1 ((w1.drew.setCells g (k * 5) (flat (rs.drop (k + 1)))).setCells g ((rs.length - 1) * 5) zeros5) := (((Below.refl B w1).drew).grown g2 (by have := B1.out.size; show B ≤ w1.heap.size; omega) (fun b hb => by cases hb; exact hBg)).grown g3 (by have := B1.out.size; have := g2.size; have h4 : w1.drew.heap.size = w1.heap.size := rfl; omega) (fun b hb => by cases hb; exact hBg)
  have hkk : Kept mb w1 ((w1.drew.setCells g (k * 5) (flat (rs.drop (k + 1)))).setCells g ((rs.length - 1) * 5) zeros5) :=
    ((Kept.of ((Below.refl _ w1).drew)).trans (Kept.grown o1.drew g2)).trans (Kept.grown o2 g3)
  have hne : some mb ≠ some g := fun e => own_ne o1 r1 (by decide) e.symm
  have r2 := (r1.of_block (w' := w1.drew) rfl).of_block (g2.block mb (by show mb < w1.heap.size; have := B1.out.size; omega) hne)
  have r3 := r2.of_block (g3.block mb r2.lt hne)
  have HW := Lib.hid hgb
  have HK := Lib.hid hkk
  have HO := Lib.hid o4
  clear o1 o2 o3 g2 g3 r1 r2 hgb hkk o4 hg
  go_wp2_with fail
  (with_reducible refine DL.out.mono ?_)
  rintro e w2 ⟨rfl, hw⟩
  rw [← hw] at r3 HW HK HO
  clear hw
  have z0 := r3.cell (i := 0) (by omega)
  have z1 := r3.frozen 0
  have FIN := Lib.hid (show Changed w B mb (rs.eraseIdx k) last (.int .i64 0) (.returned (.int .i64 0)) (w2.setCell ⟨mb, 0, none⟩ (.slice (some ⟨g, 0, none⟩) (rs.length - 1) c)) from
    ⟨rfl, ⟨⟨_, (r3.set 0 _).congr fun i hi => by
        match i, hi with
        | 0, _ => rfl
        | 1, _ => rfl, by rw [eraseIdx_len rs k hk]; exact own_setMb (i := 0) HO.out r3 (by decide) _⟩, by rw [eraseIdx_len rs k hk]; omega, fun y hy => M1.out.good y (List.mem_of_mem_eraseIdx hy), M1.out.sorted.sublist (List.eraseIdx_sublist _ _)⟩,
      ((Kept.of B1.out).trans HK.out).trans (Kept.setMb w2 0 _), ((B1.out.mono (by omega)).trans HW.out).setCell hB _⟩)
  clear r3
  go_wp2
  go_ret
  exact FIN.out
end Go.Proofs.Ytlihgcpiokaehaa
