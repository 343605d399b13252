/- The contracts of the reference: Right, Insert, Between, Delete; slices of runes cut. -/
import Derived.Test.YtlijkejadjkbcaaKnows
namespace Go.Proofs.Ytlijkejadjkbcaa
open Go Go.RowKit

theorem seq_take {k : IntKind} {w : World} {a : Option Addr} {n : Nat} {zs : List Int} (h : SeqAt k w a n zs) (i : Nat) (hi : i ≤ n) : SeqAt k w a i (zs.take i) := by
  refine ⟨by have := h.1; simp; omega, ?_⟩
  by_cases h0 : i = 0
  · exact .inl h0
  · rcases h.2 with h1 | ⟨b, off, rfl, hlt, hc⟩
    · omega
    · exact .inr ⟨b, off, rfl, hlt, fun j z hz => hc j z (by
        rw [List.getElem?_take] at hz
        split at hz
        · exact hz
        · cases hz)⟩
theorem seq_holds {w : World} {a : Option Addr} {n : Nat} {zs : List Int} (h : SeqAt .i32 w a n zs) : ∀ ad, a = some ad → ∀ j u, (ints zs)[j]? = some u → w.cell? (ad.add j) = some u := by
  intro ad ha j u hj
  rcases h.2 with h0 | ⟨b, off, rfl, hlt, hc⟩
  · have : zs = [] := List.eq_nil_of_length_eq_zero (by rw [h.1, h0])
    rw [this] at hj
    cases hj
  · cases ha
    exact ints_holds hc j u hj
theorem seq_from (a : Option Addr) (n cap i : Nat) (hi : i ≤ n) (hn : n ≤ cap) (hno : a = none → n = 0 ∧ cap = 0) : ∃ a', (∀ w : World, (Instr.slice 22 (.slice a n cap) (some (.int .i64 i)) none none).run Try.prog w = .ok (.slice a' (n - i) (cap - i)) w) ∧ (a' = none → n - i = 0 ∧ cap - i = 0) ∧ ∀ k w zs, SeqAt k w a n zs → SeqAt k w a' (n - i) (zs.drop i) := by
  refine ⟨if cap = i then a else a.map (·.add (i * 1)), fun w => ?_, ?_, fun k w zs h => ⟨by have := h.1; simp; omega, ?_⟩⟩
  · rw [run_slice_l (P := Try.prog) w 22 a n cap und22 .i64 (i : Int) (by omega) (by omega), size22]
    simp only [Result.andThen, sliced]
    simp
  · intro h
    have : a = none := by
      split at h
      · exact h
      · cases a with
        | none => rfl
        | some x => cases h
    have := hno this
    omega
  · by_cases h0 : n - i = 0
    · exact .inl h0
    · rcases h.2 with h1 | ⟨b, off, rfl, hlt, hc⟩
      · omega
      · refine .inr ⟨b, off + i, ?_, hlt, fun j z hz => ?_⟩
        · rw [if_neg (by omega)]
          simp [Addr.add_lit]
        · rw [List.getElem?_drop] at hz
          rw [show off + i + j = off + (i + j) by omega]
          exact hc _ _ hz
theorem seq_mid (a : Option Addr) (n cap i j : Nat) (hij : i ≤ j) (hj : j ≤ n) (hn : n ≤ cap) : ∃ a', (∀ w : World, (Instr.slice 22 (.slice a n cap) (some (.int .i64 i)) (some (.int .i64 j)) none).run Try.prog w = .ok (.slice a' (j - i) (cap - i)) w) ∧ ∀ k w zs, SeqAt k w a n zs → SeqAt k w a' (j - i) ((zs.take j).drop i) := by
  refine ⟨if cap = i then a else a.map (·.add (i * 1)), fun w => ?_, fun k w zs h => ⟨by have := h.1; simp; omega, ?_⟩⟩
  · rw [run_slice_lh (P := Try.prog) w 22 a n cap und22 .i64 .i64 (i : Int) (j : Int) (by omega) (by omega) (by omega), size22]
    simp only [Result.andThen, sliced]
    simp
  · by_cases h0 : j - i = 0
    · exact .inl h0
    · rcases (seq_take h j hj).2 with h1 | ⟨b, off, rfl, hlt, hc⟩
      · omega
      · refine .inr ⟨b, off + i, ?_, hlt, fun q z hz => ?_⟩
        · rw [if_neg (by omega)]
          simp [Addr.add_lit]
        · rw [List.getElem?_drop] at hz
          rw [show off + i + q = off + (i + q) by omega]
          exact hc _ _ hz

/-- append, of what lies in memory or is none, onto a row that the call owns, as one step of a region that draws. -/
theorem step_append_in {P : Program} {ops : Array Oper} {o : Oper} {a : Act} {w : World} {K : Act → World → Prop} {Q : Exit → Act → World → Prop} {E : Prop}
    (hg : o.guard = none) (s x : Operand) (t : TypeId) (hop : o.op = Op.call { callee := Callee.builtin Builtin.append, args := #[s, x], argTypes := #[t, t] })
    (base : Nat) (e : TypeId) (i : TypeInfo) (z : Value) (size bytes : Nat) (h1 : P.underlying t = some (.slice e)) (h2 : P.info? e = some i) (h3 : i.zero = some z) (h4 : i.size = size) (h5 : i.bytes = bytes) (h6 : z.cells.size = size) (h7 : 0 < size)
    (v : Value) (n : Nat) (xs : List Value) (hs : a.eval s = v) (hown : w.ownsRow base e size v n xs)
    (ao : Option Addr) (m c : Nat) (news : List Value) (hx : a.eval x = .slice ao m c) (hno : ao = none → m = 0 ∧ c = 0) (hn : news.length = m * size) (hc : ∀ ad, ao = some ad → ∀ j u, news[j]? = some u → w.cell? (ad.add j) = some u) (h1c : ∀ u ∈ news, u.oneCell' = true)
    (b1 : n + m ≤ maxLen) (b2 : (n + m) * bytes ≤ 140737488355328) (hbase : base ≤ w.heap.size)
    (hK : ∀ v' w', w'.ownsRow base e size v' (n + m) (xs ++ news) → w.grownBy w' v.ownBlock → K (a.put o.dst v') w') :
    if Region.wanted o (yielded ops a.tmps) = true then Oper.wp P o a w K Q else E := by
  cases ao with
  | some ad => exact step_append_own hg s x t hop base e i z size bytes h1 h2 h3 h4 h5 h6 h7 v n xs hs hown ad m c news hx hn (hc ad rfl) h1c b1 b2 hbase hK
  | none =>
    obtain ⟨rfl, rfl⟩ := hno rfl
    obtain rfl : news = [] := List.eq_nil_of_length_eq_zero (by simpa using hn)
    have hw : Region.wanted o (yielded ops a.tmps) = true := by simp [Region.wanted, hg]
    rw [if_pos hw]
    have hrun := run_append_owned_none (P := P) (w := w) base t o.type e i size h1 h2 v n xs hown
    unfold Oper.wp
    simp [execOp, hop, resolve, invoke, builtin, hs, hx, hrun, Result.andThen]
    exact hK v w (by simpa using hown) ⟨rfl, rfl, rfl, Nat.le_refl _, fun _ _ _ => rfl⟩

theorem refRightOf (a : Option Addr) (n cap : Nat) (zs : List Int) (w : World) (hn : n ≤ 1099511627776) (h : SeqAt .i32 w a n zs) :
    Calls Try.prog 8 #[.slice a n cap] w fun e w' => e = .returned (.int .i64 (if zs.all Lib.validRune then (if 2000 < n then 3 else 0) else 1)) ∧ w = w' := by
  have A := all a n cap zs w hn h
  clear h
  cases hv : zs.all Lib.validRune
  · rw [hv] at A
    have AA := Lib.hid A
    clear A hv
    go_enter Try.func8, Try.ntmps8
    go_wp2_with fail
    (with_reducible refine AA.out.mono ?_)
    rintro e w' ⟨rfl, rfl⟩
    go_wp2
    go_ret
    exact ⟨rfl, rfl⟩
  · rw [hv] at A
    have AA := Lib.hid A
    clear A hv
    by_cases hf : 2000 < n
    · have hf' : (2000 : Int) < (n : Int) := by omega
      go_enter Try.func8, Try.ntmps8
      go_wp2_with fail
      (with_reducible refine AA.out.mono ?_)
      rintro e w' ⟨rfl, rfl⟩
      go_wp2
      go_ret
      exact ⟨by simp, rfl⟩
    · have hf' : ¬ (2000 : Int) < (n : Int) := by omega
      go_enter Try.func8, Try.ntmps8
      go_wp2_with fail
      (with_reducible refine AA.out.mono ?_)
      rintro e w' ⟨rfl, rfl⟩
      go_wp2
      go_ret
      exact ⟨by simp, rfl⟩

theorem refBetween (a : Option Addr) (n cap : Nat) (x y : Int) (w : World) :
    Calls Try.prog 14 #[.slice a n cap, .int .i64 x, .int .i64 y] w fun e w' => e = .returned (.bool (decide (0 ≤ x ∧ x ≤ y ∧ y ≤ n))) ∧ w = w' := by
  by_cases h1 : 0 ≤ x
  · by_cases h2 : x ≤ y
    · go_enter Try.func14, Try.ntmps14
      go_wp2
      go_ret
      exact ⟨ret_bool (by simp [h1, h2]), rfl⟩
    · have h2' : ¬ x ≤ y := h2
      go_enter Try.func14, Try.ntmps14
      go_wp2
      go_ret
      exact ⟨ret_bool (by simp; omega), rfl⟩
  · have h1' : ¬ 0 ≤ x := h1
    go_enter Try.func14, Try.ntmps14
    go_wp2
    go_ret
    exact ⟨ret_bool (by simp; omega), rfl⟩
end Go.Proofs.Ytlijkejadjkbcaa
