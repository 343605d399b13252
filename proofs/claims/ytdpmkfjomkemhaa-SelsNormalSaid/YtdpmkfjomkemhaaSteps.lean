/- Slices of groups, cut and appended; stores into a row of the call's own. No walk. -/
import Derived.Test.YtdpmkfjomkemhaaAhead
import Derived.Deep.RegionLawGrows
import Derived.Deep.RegionLaw
namespace Go.Proofs.Ytdpmkfjomkemhaa
open Go Go.RowKit

theorem size45 : ∀ w : World, (sizeOf (Try.prog.elem 40)).run Try.prog w = .ok 3 w := fun _ => by kernel_rfl
theorem und45 : Try.prog.underlying 40 = some (.slice (Try.prog.elem 40)) := by kernel_rfl
theorem Try.info47 : (Try.prog.info? 43).map (fun i => (i.zero, i.size, i.bytes)) = some (some (.agg #[.int .i64 0, .int .i64 0, .int .i64 0]), 3, 24) := by kernel_rfl
theorem Try.info24 : (Try.prog.info? 24).map (fun i => (i.zero, i.size, i.bytes)) = some (some (.agg #[.int .i64 0, .int .i64 0]), 2, 16) := by kernel_rfl
theorem info_cut {P : Program} {t : TypeId} {z : Value} {s b : Nat} (h : (P.info? t).map (fun i => (i.zero, i.size, i.bytes)) = some (some z, s, b)) : ∃ i, P.info? t = some i ∧ i.zero = some z ∧ i.size = s ∧ i.bytes = b := by
  cases hi : P.info? t with
  | none => rw [hi] at h; cases h
  | some i =>
    rw [hi] at h
    simp only [Option.map_some, Option.some.injEq, Prod.mk.injEq] at h
    exact ⟨i, rfl, h.1, h.2.1, h.2.2⟩
theorem add_zero' (x : Addr) : x.add 0 = x := by
  obtain ⟨b, off, sp⟩ := x
  simp [Addr.add]

theorem row_take {α : Type} {c : α → List Value} {s : Nat} (hs : ∀ x, (c x).length = s) {e : TypeId} {w : World} {a : Option Addr} {n : Nat} {l : List α} (h : RowAt c e w a n l) (i : Nat) (hi : i ≤ n) : RowAt c e w a i (l.take i) := by
  refine ⟨by have := h.1; simp; omega, ?_⟩
  by_cases h0 : i = 0
  · exact .inl h0
  · rcases h.2 with h1 | ⟨b, off, rfl, ht, hc⟩
    · omega
    · refine .inr ⟨b, off, rfl, ht, fun j z hz => hc j z ?_⟩
      rw [flat_take hs, List.getElem?_take] at hz
      split at hz
      · exact hz
      · cases hz
theorem row_holds {α : Type} {c : α → List Value} {e : TypeId} {w : World} {a : Option Addr} {n : Nat} {l : List α} (h : RowAt c e w a n l) : ∀ ad, a = some ad → ∀ j u, (flat c l)[j]? = some u → w.cell? (ad.add j) = some u := by
  intro ad ha j u hj
  rcases h.2 with h0 | ⟨b, off, rfl, _, hc⟩
  · have : l = [] := List.eq_nil_of_length_eq_zero (by rw [h.1, h0])
    rw [this] at hj
    cases hj
  · cases ha
    rw [Addr.add_lit]
    exact hc j u hj
theorem slice_to (a : Option Addr) (n cap i : Nat) (hi : i ≤ cap) (w : World) : (Instr.slice 40 (.slice a n cap) none (some (.int .i64 i)) none).run Try.prog w = .ok (.slice a i cap) w := by
  rw [run_slice_h (P := Try.prog) w 40 a n cap und45 .i64 (i : Int) (by omega) (by omega), size45]
  simp only [Result.andThen, sliced]
  have e : (if cap = 0 then a else a.map (·.add (0 * 3))) = a := by
    split
    · rfl
    · cases a with
      | none => rfl
      | some x => simp [add_zero']
  rw [e]
  simp
theorem row_from (a : Option Addr) (n cap i : Nat) (hi : i < n) (hn : n ≤ cap) (hno : a = none → n = 0 ∧ cap = 0) : ∃ a', (∀ w : World, (Instr.slice 40 (.slice a n cap) (some (.int .i64 ((i : Int) + 1))) none none).run Try.prog w = .ok (.slice a' (n - (i + 1)) (cap - (i + 1))) w) ∧ (a' = none → n - (i + 1) = 0 ∧ cap - (i + 1) = 0) ∧ ∀ e w (l : List Gp), RowAt Gp.cells e w a n l → RowAt Gp.cells e w a' (n - (i + 1)) (l.drop (i + 1)) := by
  refine ⟨if cap = i + 1 then a else a.map (·.add ((i + 1) * 3)), fun w => ?_, ?_, fun e w l h => ⟨by have := h.1; simp; omega, ?_⟩⟩
  · rw [show ((i : Int) + 1) = ((i + 1 : Nat) : Int) by omega, run_slice_l (P := Try.prog) w 40 a n cap und45 .i64 ((i + 1 : Nat) : Int) (by omega) (by omega), size45]
    simp only [Result.andThen, sliced]
    simp
  · intro h
    have : a = none := by
      split at h
      · exact h
      · cases a with
        | none => rfl
        | some x => cases h
    have := hno this
    omega
  · by_cases h0 : n - (i + 1) = 0
    · exact .inl h0
    · rcases h.2 with h1 | ⟨b, off, rfl, ht, hc⟩
      · omega
      · refine .inr ⟨b, off + (i + 1) * 3, ?_, ht, fun j z hz => ?_⟩
        · rw [if_neg (by omega)]
          simp [Addr.add_lit]
        · rw [flat_drop gp_len, List.getElem?_drop] at hz
          rw [show off + (i + 1) * 3 + j = off + ((i + 1) * 3 + j) by omega]
          exact hc _ _ hz

/-- append onto a row that the call owns, as one step of a region that draws. -/
theorem step_append_own {P : Program} {ops : Array Oper} {o : Oper} {a : Act} {w : World} {K : Act → World → Prop} {Q : Exit → Act → World → Prop} {E : Prop}
    (hg : o.guard = none) (s x : Operand) (t : TypeId) (hop : o.op = Op.call { callee := Callee.builtin Builtin.append, args := #[s, x], argTypes := #[t, t] })
    (base : Nat) (e : TypeId) (i : TypeInfo) (z : Value) (size bytes : Nat) (h1 : P.underlying t = some (.slice e)) (h2 : P.info? e = some i) (h3 : i.zero = some z) (h4 : i.size = size) (h5 : i.bytes = bytes) (h6 : z.cells.size = size) (h7 : 0 < size)
    (v : Value) (n : Nat) (xs : List Value) (hs : a.eval s = v) (hown : w.ownsRow base e size v n xs)
    (ad : Addr) (m c : Nat) (news : List Value) (hx : a.eval x = .slice (some ad) m c) (hn : news.length = m * size) (hc : ∀ j u, news[j]? = some u → w.cell? (ad.add j) = some u) (h1c : ∀ u ∈ news, u.oneCell' = true)
    (b1 : n + m ≤ maxLen) (b2 : (n + m) * bytes ≤ 140737488355328) (hbase : base ≤ w.heap.size)
    (hK : ∀ v' w', w'.ownsRow base e size v' (n + m) (xs ++ news) → w.grownBy w' v.ownBlock → K (a.put o.dst v') w') :
    if Region.wanted o (yielded ops a.tmps) = true then Oper.wp P o a w K Q else E := by
  have hw : Region.wanted o (yielded ops a.tmps) = true := by simp [Region.wanted, hg]
  rw [if_pos hw]
  obtain ⟨v', w', hrun, r1, r2, _⟩ := run_append_own (P := P) w base t o.type e i z size bytes h1 h2 h3 h4 h5 h6 h7 v n xs hown ad m c news hn hc h1c b1 b2 hbase
  unfold Oper.wp
  simp [execOp, hop, resolve, invoke, builtin, hs, hx, hrun, Result.andThen]
  exact hK v' w' r1 r2

/-- append, of what lies in memory or is none, onto a row that the call owns, as one step of a region that draws. -/
theorem step_append_in {P : Program} {ops : Array Oper} {o : Oper} {a : Act} {w : World} {K : Act → World → Prop} {Q : Exit → Act → World → Prop} {E : Prop}
    (hg : o.guard = none) (s x : Operand) (t : TypeId) (hop : o.op = Op.call { callee := Callee.builtin Builtin.append, args := #[s, x], argTypes := #[t, t] })
    (base : Nat) (e : TypeId) (i : TypeInfo) (z : Value) (size bytes : Nat) (h1 : P.underlying t = some (.slice e)) (h2 : P.info? e = some i) (h3 : i.zero = some z) (h4 : i.size = size) (h5 : i.bytes = bytes) (h6 : z.cells.size = size) (h7 : 0 < size)
    (v : Value) (n : Nat) (xs : List Value) (hs : a.eval s = v) (hown : w.ownsRow base e size v n xs)
    (ao : Option Addr) (m c : Nat) (news : List Value) (hx : a.eval x = .slice ao m c) (hno : ao = none → m = 0 ∧ c = 0) (hn : news.length = m * size) (hc : ∀ ad, ao = some ad → ∀ j u, news[j]? = some u → w.cell? (ad.add j) = some u) (h1c : ∀ u ∈ news, u.oneCell' = true)
    (b1 : n + m ≤ maxLen) (b2 : (n + m) * bytes ≤ 140737488355328) (hbase : base ≤ w.heap.size)
    (hK : ∀ v' w', w'.ownsRow base e size v' (n + m) (xs ++ news) → w.grownBy w' v.ownBlock → K (a.put o.dst v') w') :
    if Region.wanted o (yielded ops a.tmps) = true then Oper.wp P o a w K Q else E := by
  cases ao with
  | some ad => exact step_append_own hg s x t hop base e i z size bytes h1 h2 h3 h4 h5 h6 h7 v n xs hs hown ad m c news hx hn (hc ad rfl) h1c b1 b2 hbase hK
  | none =>
    obtain ⟨rfl, rfl⟩ := hno rfl
    obtain rfl : news = [] := List.eq_nil_of_length_eq_zero (by simpa using hn)
    have hw : Region.wanted o (yielded ops a.tmps) = true := by simp [Region.wanted, hg]
    rw [if_pos hw]
    have hrun := run_append_owned_none (P := P) (w := w) base t o.type e i size h1 h2 v n xs hown
    unfold Oper.wp
    simp [execOp, hop, resolve, invoke, builtin, hs, hx, hrun, Result.andThen]
    exact hK v w (by simpa using hown) ⟨rfl, rfl, rfl, Nat.le_refl _, fun _ _ _ => rfl⟩

/-- A store into a cell of a row of the call's own. -/
theorem own_set {w : World} {B e s g n c : Nat} {xs : List Value} (h : w.ownsRow B e s (.slice (some ⟨g, 0, none⟩) n c) n xs) (j : Nat) (u : Value) :
    (w.setCell ⟨g, j, none⟩ u).ownsRow B e s (.slice (some ⟨g, 0, none⟩) n c) n (xs.set j u) := by
  refine ⟨by simpa using h.1, ?_⟩
  rcases h.2 with ⟨h1, _⟩ | ⟨g', cap, cur, he, hB, hg, hcap, hm, hs, ht⟩
  · cases h1
  · cases he
    refine .inr ⟨g, c, cur.set! j u, rfl, hB, ?_, hcap, hm, by simpa using hs, ?_⟩
    · simp only [World.setCell, Array.getElem?_modify]
      rw [hg]
      simp
    · simp only [Array.set!_eq_setIfInBounds, Array.toList_setIfInBounds]
      rw [← ht, List.take_set]

theorem flat_set {α : Type} {c : α → List Value} {s : Nat} (hs : ∀ x, (c x).length = s) (l : List α) (k i : Nat) (x y : α) (u : Value) (h : l[k]? = some x) (hi : i < s) (hy : c y = (c x).set i u) : (flat c l).set (k * s + i) u = flat c (l.set k y) := by
  induction l generalizing k with
  | nil => cases h
  | cons z r ih =>
    cases k with
    | zero =>
      cases h
      rw [List.set_cons_zero, flat_cons, flat_cons, Nat.zero_mul, Nat.zero_add, List.set_append_left _ _ (by rw [hs]; exact hi), hy]
    | succ k =>
      rw [List.set_cons_succ, flat_cons, flat_cons, List.set_append_right _ _ (by rw [hs, Nat.add_mul]; omega), show (k + 1) * s + i - (c z).length = k * s + i by rw [hs, Nat.add_mul]; omega, ih k (by simpa using h)]

/-- A store into a field of a group. -/
theorem gp_set {w : World} {B e g n c : Nat} {gs : List Gp} (h : w.ownsRow B e 3 (.slice (some ⟨g, 0, none⟩) n c) n (flat Gp.cells gs)) (k i : Nat) (x y : Gp) (u : Value) (hk : gs[k]? = some x) (hi : i < 3) (hy : y.cells = x.cells.set i u) :
    (w.setCell ⟨g, k * 3 + i, none⟩ u).ownsRow B e 3 (.slice (some ⟨g, 0, none⟩) n c) n (flat Gp.cells (gs.set k y)) := by
  rw [← flat_set gp_len gs k i x y u hk hi hy]
  exact own_set h _ u

end Go.Proofs.Ytdpmkfjomkemhaa
