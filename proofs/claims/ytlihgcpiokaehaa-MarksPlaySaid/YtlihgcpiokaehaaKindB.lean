/- Slices of the law's own list, cut and appended; how the round stands behind a change. No walk. -/
import Derived.Test.YtlihgcpiokaehaaKindA
namespace Go.Proofs.Ytlihgcpiokaehaa
open Go Go.RowKit

theorem size43 : ∀ w : World, (sizeOf (Try.prog.elem 43)).run Try.prog w = .ok 5 w := fun _ => by kernel_rfl
theorem und43 : Try.prog.underlying 43 = some (.slice (Try.prog.elem 43)) := by kernel_rfl
theorem Try.info35 : (Try.prog.info? 35).map (fun i => (i.zero, i.size, i.bytes)) = some (some (.agg #[.int .i64 0, .int .i64 0, .bool false, .bool false, .int .i64 0]), 5, 32) := by kernel_rfl
theorem add_zero' (x : Addr) : x.add 0 = x := by
  obtain ⟨b, off, sp⟩ := x
  simp [Addr.add]

/-- From a row of the call's own to the law's list. -/
theorem own_lat {w : World} {B n : Nat} {v : Value} {rs : List Rg} (h : w.ownsRow B 35 5 v n (flat rs)) : ∃ la lc, v = .slice la rs.length lc ∧ LAt w la lc rs := by
  obtain ⟨a, c, rfl, hc, hno, hr⟩ := own_row h
  have hl := hr.1
  subst hl
  exact ⟨a, c, rfl, hr, hc, hno⟩

theorem row_take {e : TypeId} {w : World} {a : Option Addr} {n : Nat} {rs : List Rg} (h : RowAt e w a n rs) (i : Nat) (hi : i ≤ n) : RowAt e w a i (rs.take i) := by
  refine ⟨by have := h.1; simp; omega, ?_⟩
  by_cases h0 : i = 0
  · exact .inl h0
  · rcases h.2 with h1 | ⟨b, off, rfl, ht, hc⟩
    · omega
    · refine .inr ⟨b, off, rfl, ht, fun j z hz => hc j z ?_⟩
      rw [flat_take, List.getElem?_take] at hz
      split at hz
      · exact hz
      · cases hz
theorem row_holds {e : TypeId} {w : World} {a : Option Addr} {n : Nat} {rs : List Rg} (h : RowAt e w a n rs) : ∀ ad, a = some ad → ∀ j u, (flat rs)[j]? = some u → w.cell? (ad.add j) = some u := by
  intro ad ha j u hj
  rcases h.2 with h0 | ⟨b, off, rfl, _, hc⟩
  · have : rs = [] := List.eq_nil_of_length_eq_zero (by rw [h.1, h0])
    rw [this] at hj
    cases hj
  · cases ha
    rw [Addr.add_lit]
    exact hc j u hj
theorem slice_to (a : Option Addr) (n cap i : Nat) (hi : i ≤ cap) (w : World) : (Instr.slice 43 (.slice a n cap) none (some (.int .i64 i)) none).run Try.prog w = .ok (.slice a i cap) w := by
  rw [run_slice_h (P := Try.prog) w 43 a n cap und43 .i64 (i : Int) (by omega) (by omega), size43]
  simp only [Result.andThen, sliced]
  have e : (if cap = 0 then a else a.map (·.add (0 * 5))) = a := by
    split
    · rfl
    · cases a with
      | none => rfl
      | some x => simp [add_zero']
  rw [e]
  simp
theorem row_from (a : Option Addr) (n cap i : Nat) (hi : i < n) (hn : n ≤ cap) (hno : a = none → n = 0 ∧ cap = 0) : ∃ a', (∀ w : World, (Instr.slice 43 (.slice a n cap) (some (.int .i64 ((i : Int) + 1))) none none).run Try.prog w = .ok (.slice a' (n - (i + 1)) (cap - (i + 1))) w) ∧ (a' = none → n - (i + 1) = 0 ∧ cap - (i + 1) = 0) ∧ ∀ e w rs, RowAt e w a n rs → RowAt e w a' (n - (i + 1)) (rs.drop (i + 1)) := by
  refine ⟨if cap = i + 1 then a else a.map (·.add ((i + 1) * 5)), fun w => ?_, ?_, fun e w rs h => ⟨by have := h.1; simp; omega, ?_⟩⟩
  · rw [show ((i : Int) + 1) = ((i + 1 : Nat) : Int) by omega, run_slice_l (P := Try.prog) w 43 a n cap und43 .i64 ((i + 1 : Nat) : Int) (by omega) (by omega), size43]
    simp only [Result.andThen, sliced]
    simp
  · intro h
    have : a = none := by
      split at h
      · exact h
      · cases a with
        | none => rfl
        | some x => cases h
    have := hno this
    omega
  · by_cases h0 : n - (i + 1) = 0
    · exact .inl h0
    · rcases h.2 with h1 | ⟨b, off, rfl, ht, hc⟩
      · omega
      · refine .inr ⟨b, off + (i + 1) * 5, ?_, ht, fun j z hz => ?_⟩
        · rw [if_neg (by omega)]
          simp [Addr.add_lit]
        · rw [flat_drop, List.getElem?_drop] at hz
          rw [show off + (i + 1) * 5 + j = off + ((i + 1) * 5 + j) by omega]
          exact hc _ _ hz

/-- append, of what lies in memory or is none, onto a row that the call owns, as one step of a region that draws. -/
theorem step_append_in {P : Program} {ops : Array Oper} {o : Oper} {a : Act} {w : World} {K : Act → World → Prop} {Q : Exit → Act → World → Prop} {E : Prop}
    (hg : o.guard = none) (s x : Operand) (t : TypeId) (hop : o.op = Op.call { callee := Callee.builtin Builtin.append, args := #[s, x], argTypes := #[t, t] })
    (base : Nat) (e : TypeId) (i : TypeInfo) (z : Value) (size bytes : Nat) (h1 : P.underlying t = some (.slice e)) (h2 : P.info? e = some i) (h3 : i.zero = some z) (h4 : i.size = size) (h5 : i.bytes = bytes) (h6 : z.cells.size = size) (h7 : 0 < size)
    (v : Value) (n : Nat) (xs : List Value) (hs : a.eval s = v) (hown : w.ownsRow base e size v n xs)
    (ao : Option Addr) (m c : Nat) (news : List Value) (hx : a.eval x = .slice ao m c) (hno : ao = none → m = 0 ∧ c = 0) (hn : news.length = m * size) (hc : ∀ ad, ao = some ad → ∀ j u, news[j]? = some u → w.cell? (ad.add j) = some u) (h1c : ∀ u ∈ news, u.oneCell' = true)
    (b1 : n + m ≤ maxLen) (b2 : (n + m) * bytes ≤ 140737488355328) (hbase : base ≤ w.heap.size)
    (hK : ∀ v' w', w'.ownsRow base e size v' (n + m) (xs ++ news) → w.grownBy w' v.ownBlock → K (a.put o.dst v') w') :
    if Region.wanted o (yielded ops a.tmps) = true then Oper.wp P o a w K Q else E := by
  cases ao with
  | some ad => exact step_append_own hg s x t hop base e i z size bytes h1 h2 h3 h4 h5 h6 h7 v n xs hs hown ad m c news hx hn (hc ad rfl) h1c b1 b2 hbase hK
  | none =>
    obtain ⟨rfl, rfl⟩ := hno rfl
    obtain rfl : news = [] := List.eq_nil_of_length_eq_zero (by simpa using hn)
    have hw : Region.wanted o (yielded ops a.tmps) = true := by simp [Region.wanted, hg]
    rw [if_pos hw]
    have hrun := run_append_owned_none (P := P) (w := w) base t o.type e i size h1 h2 v n xs hown
    unfold Oper.wp
    simp [execOp, hop, resolve, invoke, builtin, hs, hx, hrun, Result.andThen]
    exact hK v w (by simpa using hown) ⟨rfl, rfl, rfl, Nat.le_refl _, fun _ _ _ => rfl⟩
theorem below_drewNq {B q : Nat} {W wr : World} (h : Below B W wr) : Below B W (wr.drewN q) := h.trans ⟨rfl, rfl, rfl, Nat.le_refl _, fun _ _ => rfl⟩
theorem below_app {B q : Nat} {W wr w3 : World} {o : Obj} {row : Option Nat} (h : Below B W wr) (g : ((wr.drewN q).alloc o).grownBy w3 row) (hB : B ≤ wr.heap.size) (hr : ∀ k, row = some k → B ≤ k) : Below B W w3 :=
  ((below_drewNq (q := q) h).alloc (by exact hB) o).grown g (by simp; exact Nat.le_succ_of_le hB) hr
end Go.Proofs.Ytlihgcpiokaehaa
