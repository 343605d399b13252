/- The contract of slices.Delete of one binding. Conditions: the bindings lie in a row of the call's own. -/
import Derived.Test.YtonndckjidjkiaaFind
namespace Go.Proofs.Ytonndckjidjkiaa
open Go Go.RowKit

def zeros4 : List Value := [.int .i64 0, .int .i32 0, .int .i64 0, .int .i64 0]

theorem run_clear1 (w : World) (ty : TypeId) (b o c : Nat) (hc : ∀ j, j < 4 → (w.cell? ⟨b, o + j, none⟩).isSome = true) (hf : ∀ j, j < 4 → w.frozen? ⟨b, o + j, none⟩ = false) :
    (Builtin.clear_ #[42] ty #[.slice (some ⟨b, o, none⟩) 1 c]).run Try.prog w = .ok (.tuple #[]) (w.setCells b o zeros4) := by
  have hst := run_storeCells_cells (P := Try.prog) b o zeros4 0 w (by simpa [zeros4] using hc) (by simpa [zeros4] using hf) (by intro v hv; simp [zeros4] at hv; rcases hv with rfl | rfl | rfl <;> rfl)
  simp only [Nat.add_zero] at hst
  have hz : ∀ w, (zeroValue 47).run Try.prog w = .ok (.agg #[.int .i64 0, .int .i32 0, .int .i64 0, .int .i64 0]) w := fun w => by kernel_rfl
  have hzc : (Builtin.zeroCells (Value.agg #[.int .i64 0, .int .i32 0, .int .i64 0, .int .i64 0]).cells 1).toList = zeros4 := by kernel_rfl
  simp [Builtin.clear_, run_underlying Try.underlying42, hz, hzc, hst]

/-- Values laid laidO a list. -/
def laidO (xs : List Value) : Nat → List Value → List Value
  | _, [] => xs
  | k, v :: r => laidO (xs.set k v) (k + 1) r
theorem laidO_len (vs : List Value) : ∀ (xs : List Value) (k : Nat), (laidO xs k vs).length = xs.length := by
  induction vs with
  | nil => intro xs k; rfl
  | cons v r ih => intro xs k; rw [laidO, ih, List.length_set]
theorem laidO_take (vs : List Value) : ∀ (xs : List Value) (k j : Nat), j ≤ k → (laidO xs k vs).take j = xs.take j := by
  induction vs with
  | nil => intro xs k j _; rfl
  | cons v r ih =>
    intro xs k j h
    rw [laidO, ih _ _ _ (by omega), List.take_set]
    rw [List.set_eq_of_length_le]
    rw [List.length_take]; omega
theorem laidO_at (vs : List Value) : ∀ (xs : List Value) (k j : Nat), j < vs.length → k + j < xs.length → (laidO xs k vs)[k + j]? = vs[j]? := by
  induction vs with
  | nil => intro xs k j h; simp at h
  | cons v r ih =>
    intro xs k j h hl
    cases j with
    | zero =>
      have e : (laidO (xs.set k v) (k + 1) r).take (k + 1) = (xs.set k v).take (k + 1) := laidO_take r _ _ _ (Nat.le_refl _)
      have e2 := congrArg (fun l => l[k]?) e
      simp only [List.getElem?_take] at e2
      rw [if_pos (by omega), if_pos (by omega), List.getElem?_set_self (by omega)] at e2
      rw [laidO]
      simpa using e2
    | succ j =>
      rw [laidO, show k + (j + 1) = k + 1 + j by omega, ih _ _ _ (by simpa using h) (by rw [List.length_set]; omega)]
      simp
/-- One taken out of a list, as it lies in memory. -/
theorem laidO_erase {xs : List Value} {K k n : Nat} (hl : xs.length = n * K) (hk : k < n) : (laidO xs (k * K) (xs.drop ((k + 1) * K))).take ((n - 1) * K) = xs.take (k * K) ++ xs.drop ((k + 1) * K) := by
  have h1 : (k + 1) * K ≤ n * K := Nat.mul_le_mul_right _ (by omega)
  have h2 : (n - 1) * K + K = n * K := by rw [← Nat.succ_mul]; congr 1; omega
  have h3 : (k + 1) * K = k * K + K := Nat.succ_mul _ _
  apply List.ext_getElem?
  intro j
  rw [List.getElem?_take]
  by_cases hj : j < (n - 1) * K
  · rw [if_pos hj]
    by_cases hjk : j < k * K
    · have e := congrArg (fun l => l[j]?) (laidO_take (xs.drop ((k + 1) * K)) xs (k * K) (k * K) (Nat.le_refl _))
      simp only [List.getElem?_take] at e
      rw [if_pos hjk, if_pos hjk] at e
      rw [e, List.getElem?_append_left (by rw [List.length_take]; omega), List.getElem?_take, if_pos hjk]
    · have e := laidO_at (xs.drop ((k + 1) * K)) xs (k * K) (j - k * K) (by rw [List.length_drop]; omega) (by omega)
      rw [show k * K + (j - k * K) = j by omega] at e
      rw [e, List.getElem?_append_right (by rw [List.length_take]; omega), List.length_take]
      congr 1
      omega
  · rw [if_neg hj]
    symm
    rw [List.getElem?_eq_none_iff, List.length_append, List.length_take, List.length_drop]
    omega
theorem flat_erase (rs : List Bn) (k : Nat) : flat (rs.eraseIdx k) = (flat rs).take (k * 4) ++ (flat rs).drop ((k + 1) * 4) := by
  rw [List.eraseIdx_eq_take_drop_succ, flat_append, flat_take, flat_drop]

theorem own_setCells {B g cap n : Nat} (vs : List Value) : ∀ (w : World) (xs : List Value) (k : Nat), w.ownsRow B 47 4 (.slice (some ⟨g, 0, none⟩) n cap) n xs →
    (w.setCells g k vs).ownsRow B 47 4 (.slice (some ⟨g, 0, none⟩) n cap) n (laidO xs k vs) ∧ w.grownBy (w.setCells g k vs) (some g) := by
  induction vs with
  | nil => intro w xs k h; exact ⟨h, rfl, rfl, rfl, Nat.le_refl _, fun _ _ _ => rfl⟩
  | cons v r ih =>
    intro w xs k h
    obtain ⟨h1, h2⟩ := h.stored k v
    obtain ⟨h3, h4⟩ := ih _ _ (k + 1) h1
    exact ⟨h3, h4.os.trans h2.os, h4.tape.trans h2.tape, h4.output.trans h2.output, Nat.le_trans h2.size h4.size, fun b hb hn => (h4.block b (Nat.lt_of_lt_of_le hb h2.size) hn).trans (h2.block b hb hn)⟩

theorem own_shrink {w : World} {B g n cap : Nat} {xs : List Value} (h : w.ownsRow B 47 4 (.slice (some ⟨g, 0, none⟩) n cap) n xs) (m : Nat) (hm : m ≤ n) : w.ownsRow B 47 4 (.slice (some ⟨g, 0, none⟩) m cap) m (xs.take (m * 4)) := by
  refine ⟨by rw [List.length_take, h.1]; omega, ?_⟩
  rcases h.2 with ⟨h1, _⟩ | ⟨g', c, cur, e, hB, hg, hn, hc, hs, ht⟩
  · cases h1
  · cases e
    refine .inr ⟨g, cap, cur, rfl, hB, hg, by omega, hc, hs, ?_⟩
    rw [← ht, List.take_take]
    congr 1
    omega

set_option maxHeartbeats 4000000 in
theorem delete (B g n c k : Nat) (rs : List Bn) (w : World) (hO : w.ownsRow B 47 4 (.slice (some ⟨g, 0, none⟩) n c) n (flat rs)) (hk : k < n) (hn : n ≤ 100) (hnc : n ≤ c) :
    Calls Try.prog 20 #[.slice (some ⟨g, 0, none⟩) n c, .int .i64 k, .int .i64 ((k : Int) + 1)] w fun e w' => e = .returned (.slice (some ⟨g, 0, none⟩) (n - 1) c) ∧
      w' = (w.drew.setCells g (k * 4) (flat (rs.drop (k + 1)))).setCells g ((n - 1) * 4) zeros4 := by
  obtain ⟨q, rfl⟩ : ∃ q, n = k + q + 1 := ⟨n - k - 1, by omega⟩
  obtain ⟨i0, hi, hz0, hz1, hz2⟩ := info_parts Try.info47
  have hl : (flat rs).length = (k + q + 1) * 4 := hO.1
  have HL := Lib.hid hl
  have HO := Lib.hid hO
  obtain ⟨news, hnews⟩ : ∃ news, news = flat (rs.drop (k + 1)) := ⟨_, rfl⟩
  have hlen : news.length = q * 4 := by rw [hnews, flat_drop, List.length_drop, hl]; omega
  obtain ⟨A, hA, hsrc⟩ : ∃ A : Addr, (if c = k + 1 then some (⟨g, 0, none⟩ : Addr) else some ⟨g, (k + 1) * 4, none⟩) = some A ∧ Hid (∀ t u, news[t]? = some u → w.drew.cell? (A.add t) = some u) := by
    by_cases h : c = k + 1
    · refine ⟨⟨g, 0, none⟩, by simp [h], Lib.hid fun t u hu => ?_⟩
      have h0 : news.length = 0 := by rw [hlen]; omega
      rw [List.length_eq_zero_iff.1 h0] at hu
      simp at hu
    · refine ⟨⟨g, (k + 1) * 4, none⟩, by simp [h], Lib.hid fun t u hu => ?_⟩
      rw [hnews, flat_drop, List.getElem?_drop] at hu
      have := HO.out.cells (g := g) rfl _ u hu
      rw [Addr.add_lit, Nat.zero_add] at this
      rw [Addr.add_lit]
      exact this
  have s2 : Hid (∀ u ∈ news, u.oneCell' = true) := Lib.hid (by rw [hnews]; exact flat_cells_one _)
  have s3 : Hid (∀ t, t < news.length → (w.drew.cell? ⟨g, 0 + k * 4 + t, none⟩).isSome = true ∧ w.drew.frozen? ⟨g, 0 + k * 4 + t, none⟩ = false) := Lib.hid fun t ht => by
    rw [hlen] at ht
    rw [Nat.zero_add]
    refine ⟨?_, HO.out.frozenAt _⟩
    show (w.cell? _).isSome = true
    rw [HO.out.cellAt (k * 4 + t) (by omega), List.getElem?_eq_getElem (by omega)]
    rfl
  obtain ⟨W1, hW1⟩ : ∃ W1, W1 = w.drew.setCells g (0 + k * 4) news := ⟨_, rfl⟩
  have HW := Lib.hid hW1
  have o1 := (own_setCells news w.drew (flat rs) (k * 4) hO.drew).1
  rw [show k * 4 = 0 + k * 4 by omega, ← hW1] at o1
  have hcl : ∀ ty, (Builtin.clear_ #[42] ty #[.slice (some ⟨g, (k + q) * 4, none⟩) 1 (c - (k + q))]).run Try.prog W1 = .ok (.tuple #[]) (W1.setCells g ((k + q) * 4) zeros4) := fun ty =>
    run_clear1 W1 ty g ((k + q) * 4) _ (fun j hj => by rw [o1.cellAt _ (by omega), List.getElem?_eq_getElem (by have := o1.1; omega)]; rfl) (fun j hj => o1.frozenAt _)
  have HN := Lib.hid hnews
  have h1 : (0 : Int) ≤ (k : Int) := by omega
  have h2 : (k : Int) + 1 ≤ ((k + q + 1 : Nat) : Int) := by omega
  have h3 : ((k + q + 1 : Nat) : Int) ≤ (c : Int) := by omega
  have h4 : (k : Int) + 1 ≤ (c : Int) := by omega
  have h5 : (k : Int) ≤ (c : Int) := by omega
  have h6 : (0 : Int) ≤ (k : Int) + 1 := by omega
  have h7 : (k : Int) ≤ (k : Int) + (q : Int) := by omega
  have h8 : (k : Int) + (q : Int) ≤ (k : Int) + (q : Int) + 1 := by omega
  have h9 : (0 : Int) ≤ (k : Int) + (q : Int) := by omega
  have h10 : (k : Int) + (q : Int) + 1 ≤ (c : Int) := by omega
  clear hW1 o1 hO hl hnews
  go_enter Try.func20, Try.ntmps20
  go_wp2_with fail
  go_region_law (first
    | (refine step_append_room rfl (.tmp 22) (.tmp 25) 42 rfl 47 i0 4 Try.underlying42 hi hz1 g 0 k c (by simp [Act.eval, Act.put]) A q (c - (k + 1)) news (by simp [Act.eval, Act.put]) hlen hsrc.out s2.out (by omega) s3.out ?_; rw [← HW.out]))
  go_wp2
  go_ret
  refine ⟨by rw [Nat.add_sub_cancel]; rfl, ?_⟩
  rw [HW.out, HN.out, Nat.zero_add, Nat.add_sub_cancel]

theorem eraseIdx_len (rs : List Bn) (k : Nat) (h : k < rs.length) : (rs.eraseIdx k).length = rs.length - 1 := by
  rw [List.length_eraseIdx, if_pos h]
end Go.Proofs.Ytonndckjidjkiaa
