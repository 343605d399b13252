/- The contracts of list, those, All, Stab, Over. Conditions: the marks lie in memory. -/
import Derived.Test.YtlihgcpiokaehaaData
import Derived.Shelf.Abstract
namespace Go.Proofs.Ytlihgcpiokaehaa
open Go Go.RowKit

theorem list (mb : Nat) (v : Value) (w : World) (h : w.cell? ⟨mb, 0, none⟩ = some v) :
    Calls Try.prog 40 #[.pointer (some ⟨mb, 0, none⟩)] w fun e w' => e = .returned v ∧ w = w' := by
  go_enter Try.func40, Try.ntmps40
  go_wp2
  go_ret
  exact ⟨rfl, rfl⟩
theorem list_nil (w : World) :
    Calls Try.prog 40 #[.pointer none] w fun e w' => e = .returned (.slice none 0 0) ∧ w = w' := by
  go_enter Try.func40, Try.ntmps40
  go_wp2
  go_ret
  exact ⟨rfl, rfl⟩

/-- What is asked of the function that chooses ranges. -/
def Asked (w : World) (g : Nat) (lb : Array Value) (p : Int → Int → Bool) : Prop :=
  ∀ (W : World) (f t : Int) (l r : Bool), Below w.heap.size w W → Calls Try.prog g (#[.agg #[.int .i64 f, .int .i64 t, .bool l, .bool r]] ++ lb) W fun e w' => e = .returned (.bool (p f t)) ∧ Below W.heap.size W w'

/-- The numbers of those that are chosen. -/
def ids (p : Int → Int → Bool) (rs : List Rg) : List Int := (rs.filter fun x => p x.f x.t).map Rg.i
theorem ids_le (p : Int → Int → Bool) (rs : List Rg) : (ids p rs).length ≤ rs.length := by
  unfold ids; rw [List.length_map]; exact List.length_filter_le _ _
theorem ids_yes (p : Int → Int → Bool) (rs : List Rg) (k : Nat) (x : Rg) (h : rs[k]? = some x) (hp : p x.f x.t = true) : ids p (rs.take (k + 1)) = ids p (rs.take k) ++ [x.i] := by
  unfold ids; rw [List.take_add_one, h]; simp [hp]
theorem ids_no (p : Int → Int → Bool) (rs : List Rg) (k : Nat) (x : Rg) (h : rs[k]? = some x) (hp : p x.f x.t = false) : ids p (rs.take (k + 1)) = ids p (rs.take k) := by
  unfold ids; rw [List.take_add_one, h]; simp [hp]

theorem Try.info3 : (Try.prog.info? 3).map (fun i => (i.zero, i.size, i.bytes)) = some (some (.int .i64 0), 1, 8) := by kernel_rfl

theorem those_none (m : Option Addr) (a : Option Addr) (c g : Nat) (lb : Array Value) (w : World) (hl : Calls Try.prog 40 #[.pointer m] w fun e w' => e = .returned (.slice a 0 c) ∧ w = w') :
    Calls Try.prog 31 #[.pointer m, .func (.func g) #[] lb] w fun e w' => e = .returned (.slice none 0 0) ∧ w = w' := by
  have HL := Lib.hid hl
  clear hl
  go_enter Try.func31, Try.ntmps31
  go_wp2_with fail
  (with_reducible refine HL.out.mono ?_)
  rintro e w' ⟨rfl, rfl⟩
  go_wp2_with fail
  go_loopw [5, 11] (fun v i wr => v = .slice none 0 0 ∧ i = .int .i64 0 ∧ wr = w) (fun _ _ _ => 0)
  case atStart => exact ⟨rfl, rfl, rfl⟩
  case round =>
    obtain ⟨rfl, rfl, rfl⟩ := hrel
    go_wp2
    go_ret
    exact ⟨rfl, rfl⟩

set_option maxHeartbeats 1000000 in
theorem those_cells (m : Option Addr) (b off n c g : Nat) (lb : Array Value) (p : Int → Int → Bool) (rs : List Rg) (w : World) (hl : Calls Try.prog 40 #[.pointer m] w fun e w' => e = .returned (.slice (some ⟨b, off, none⟩) n c) ∧ w = w')
    (hn : n ≤ 60) (hlen : rs.length = n) (hlt : b < w.heap.size) (hc : ∀ j u, (flat rs)[j]? = some u → w.cell? ⟨b, off + j, none⟩ = some u)
    (eg : ∀ args w, (callFunc g args).run Try.prog w = .ok (.enter g args) w) (hf : Asked w g lb p) :
    Calls Try.prog 31 #[.pointer m, .func (.func g) #[] lb] w fun e w' => ∃ v, e = .returned v ∧ w'.ownsRow w.heap.size 3 1 v (ids p rs).length (ints64 (ids p rs)) ∧ Below w.heap.size w w' := by
  obtain ⟨i1, hi1, hy0, hy1, hy2⟩ := info_parts Try.info3
  have HL := Lib.hid hl
  have HC := Lib.hid hc
  have HN := Lib.hid hlen
  have HF := Lib.hid hf
  clear hl hc hlen hf
  go_enter Try.func31, Try.ntmps31
  go_wp2_with fail
  (with_reducible refine HL.out.mono ?_)
  rintro e w' ⟨rfl, rfl⟩
  go_wp2_with fail
  go_loopw [5, 11] (fun v i wr => ∃ k : Nat, k ≤ n ∧ i = .int .i64 k ∧ wr.ownsRow w.heap.size 3 1 v (ids p (rs.take k)).length (ints64 (ids p (rs.take k))) ∧ Below w.heap.size w wr) (fun _ i _ => n - (intOf i).toNat)
  case atStart => exact ⟨0, Nat.zero_le _, rfl, World.ownsRow_nil _ _ _ _, Below.refl _ _⟩
  case round =>
    obtain ⟨k, hk, rfl, hown, hbel⟩ := hrel
    by_cases hltk : k < n
    · obtain ⟨x, hx⟩ : ∃ x, rs[k]? = some x := ⟨rs[k]'(by have := HN.out; omega), by simp⟩
      obtain ⟨c0, c1, c2, c3, c4⟩ := rgCells HC.out k x hx
      have e0 := (hbel.cell (by exact hlt)).trans c0
      have e1 := (hbel.cell (by exact hlt)).trans c1
      have e2 := (hbel.cell (by exact hlt)).trans c2
      have e3 := (hbel.cell (by exact hlt)).trans c3
      have e4 := (hbel.cell (by exact hlt)).trans c4
      have hq : (ids p (rs.take k)).length ≤ 60 := by
        have := ids_le p (rs.take k)
        have := List.length_take_le k rs
        omega
      obtain ⟨q, hq'⟩ : ∃ q, q = (ids p (rs.take k)).length := ⟨_, rfl⟩
      rw [← hq'] at hown hq
      have Q := Lib.hid hq'
      have X := Lib.hid hx
      have O := Lib.hid hown
      have B := Lib.hid hbel
      have hwz := hbel.size
      have hltz : (k : Int) < (n : Int) := by omega
      obtain ⟨f, t, l, r, i⟩ := x
      simp only at e0 e1 e2 e3 e4
      clear c0 c1 c2 c3 c4 hx hq' hown hbel
      have A := HF.out (wr.alloc (Obj.cells #[.int .i64 f, .int .i64 t, .bool l, .bool r, .int .i64 i] 69)) f t l r (B.out.alloc hwz _)
      cases hp : p f t with
      | true =>
        rw [hp] at A
        have AA := Lib.hid A
        have HP := Lib.hid hp
        clear A hp
        go_wp2_with fail
        go_at_fn g
        refine AA.out.mono ?_
        rintro e w2 ⟨rfl, b2⟩
        have d4 : w2.cell? ⟨wr.heap.size, 4, none⟩ = some (.int .i64 i) := (b2.cell (by simp)).trans (by simp)
        have O2 := Lib.hid (own_below (O.out.alloc _) b2)
        have B2 := Lib.hid ((B.out.alloc hwz _).trans (b2.mono (by simp; omega)))
        have hw2 := B2.out.size
        clear b2
        go_wp2_with (at_builtin; refine wpList_append_own _ rfl _ _ 52 rfl w.heap.size 3 i1 _ 1 8 Try.underlying52 hi1 hy0 hy1 hy2 rfl (by decide) _ _ _ rfl (O2.out.alloc _) ⟨w2.heap.size, 0, none⟩ 1 1 [.int .i64 i] rfl rfl (new_one w2 _) (by intro u hu; rw [List.mem_singleton.1 hu]; rfl) (by unfold maxLen; omega) (by omega) (by simp; omega) ?_)
        intro v3 w3 own3 gr3 _
        have O3 := Lib.hid own3
        have B3 := Lib.hid (show Below w.heap.size w w3 from (B2.out.alloc hw2 _).grown gr3 (by simp; omega) (fun k hk => (O2.out.lt k hk).1))
        clear own3 gr3
        go_wp2
        go_roundw
        case rel =>
          refine ⟨k + 1, by omega, by go_num, ?_, B3.out⟩
          rw [ids_yes p rs k _ X.out HP.out, List.length_append, ← Q.out]
          rw [show ints64 (ids p (rs.take k) ++ [i]) = ints64 (ids p (rs.take k)) ++ [.int .i64 i] by simp [ints64]]
          exact O3.out
        case measure => simp [intOf]; omega
      | false =>
        rw [hp] at A
        have AA := Lib.hid A
        have HP := Lib.hid hp
        clear A hp
        go_wp2_with fail
        go_at_fn g
        refine AA.out.mono ?_
        rintro e w2 ⟨rfl, b2⟩
        have O2 := Lib.hid (own_below (O.out.alloc _) b2)
        have B2 := Lib.hid ((B.out.alloc hwz _).trans (b2.mono (by simp; omega)))
        clear b2
        go_wp2
        go_roundw
        case rel =>
          refine ⟨k + 1, by omega, by go_num, ?_, B2.out⟩
          rw [ids_no p rs k _ X.out HP.out, ← Q.out]
          exact O2.out
        case measure => simp [intOf]; omega
    · have e : rs.take k = rs := List.take_of_length_le (by have := HN.out; omega)
      rw [e] at hown
      have O := Lib.hid hown
      have B := Lib.hid hbel
      have hkn : ¬ (k : Int) < (n : Int) := by omega
      clear hown hbel e
      go_wp2
      go_ret
      exact ⟨_, rfl, O.out, B.out⟩

theorem those (mb B last g : Nat) (lb : Array Value) (p : Int → Int → Bool) (rs : List Rg) (w : World) (h : MarksAt w B mb rs last)
    (eg : ∀ args w, (callFunc g args).run Try.prog w = .ok (.enter g args) w) (hf : Asked w g lb p) :
    Calls Try.prog 31 #[.pointer (some ⟨mb, 0, none⟩), .func (.func g) #[] lb] w fun e w' => ∃ v, e = .returned v ∧ w'.ownsRow w.heap.size 3 1 v (ids p rs).length (ints64 (ids p rs)) ∧ Below w.heap.size w w' := by
  obtain ⟨a, c, h1, _, h3, h4, hR⟩ := h.opened
  have hl := list mb _ w (h1.cell (i := 0) (by omega))
  simp only [mk2, if_true] at hl
  rcases hR.2 with h0 | ⟨b, off, rfl, ⟨cur, fr, hh⟩, hc⟩
  · rw [h0] at hl
    have : rs = [] := List.eq_nil_of_length_eq_zero h0
    subst this
    exact (those_none _ a c g lb w hl).mono fun e w' ⟨he, hw⟩ => ⟨_, he, by subst hw; exact World.ownsRow_nil _ _ _ _, by subst hw; exact Below.refl _ _⟩
  · exact those_cells _ b off _ c g lb p rs w hl h.len rfl (lt_of_block hh) hc eg hf

theorem all1 (f t : Int) (l r : Bool) (w : World) : Calls Try.prog 37 #[.agg #[.int .i64 f, .int .i64 t, .bool l, .bool r]] w fun e w' => e = .returned (.bool true) ∧ Below w.heap.size w w' := by
  go_enter Try.func37, Try.ntmps37
  go_wp2
  go_ret
  exact ⟨rfl, (Below.refl _ _).alloc (Nat.le_refl _) _⟩

theorem eg37 : ∀ args w, (callFunc 37 args).run Try.prog w = .ok (.enter 37 args) w := enters_of Try.func37 (by kernel_rfl) rfl
theorem eg32 : ∀ args w, (callFunc 32 args).run Try.prog w = .ok (.enter 32 args) w := enters_of Try.func32 (by kernel_rfl) rfl
theorem eg33 : ∀ args w, (callFunc 33 args).run Try.prog w = .ok (.enter 33 args) w := enters_of Try.func33 (by kernel_rfl) rfl

/-- What a call leaves that gives numbers. -/
def Gave (w : World) (zs : List Int) (e : Ending) (w' : World) : Prop :=
  ∃ v, e = .returned v ∧ w'.ownsRow w.heap.size 3 1 v zs.length (ints64 zs) ∧ Below w.heap.size w w'

theorem all_nil (w : World) : Calls Try.prog 23 #[.pointer none] w fun e w' => e = .returned (.slice none 0 0) ∧ w = w' := by
  have T := Lib.hid (those_none none none 0 37 #[] w (list_nil w))
  go_enter Try.func23, Try.ntmps23
  go_wp2_with fail
  (with_reducible refine T.out.mono ?_)
  rintro e w' ⟨rfl, rfl⟩
  go_wp2
  go_ret
  exact ⟨rfl, rfl⟩

theorem all_marks (mb B last : Nat) (rs : List Rg) (w : World) (h : MarksAt w B mb rs last) : Calls Try.prog 23 #[.pointer (some ⟨mb, 0, none⟩)] w (Gave w (rs.map Rg.i)) := by
  have e : ids (fun _ _ => true) rs = rs.map Rg.i := by unfold ids; rw [List.filter_eq_self.2 (by simp)]
  have T := those mb B last 37 #[] (fun _ _ => true) rs w h eg37 (fun W f t l r _ => all1 f t l r W)
  rw [e] at T
  have TT := Lib.hid T
  clear T e h
  go_enter Try.func23, Try.ntmps23
  go_wp2_with fail
  (with_reducible refine TT.out.mono ?_)
  rintro e w' ⟨v, rfl, o, b⟩
  have O := Lib.hid o
  have B := Lib.hid b
  clear o b
  go_wp2
  go_ret
  exact ⟨_, rfl, O.out, B.out⟩

theorem stab1 (f t : Int) (l r : Bool) (x : Int) (b : Nat) (w : World) (h : w.cell? ⟨b, 0, none⟩ = some (.int .i64 x)) : Calls Try.prog 32 #[.agg #[.int .i64 f, .int .i64 t, .bool l, .bool r], .pointer (some ⟨b, 0, none⟩)] w fun e w' => e = .returned (.bool (decide (f ≤ x ∧ x < t))) ∧ Below w.heap.size w w' := by
  have hBW : b < w.heap.size := block_lt_of_cell h
  have hne : b ≠ w.heap.size := by omega
  go_enter Try.func32, Try.ntmps32
  go_wp2
  all_goals (go_ret; refine ⟨ret_bool ?_, (Below.refl _ _).alloc (Nat.le_refl _) _⟩; rw [Bool.eq_iff_iff]; simp; omega)

theorem over1 (f t : Int) (l r : Bool) (x y : Int) (b : Nat) (w : World) (h : w.cell? ⟨b, 0, none⟩ = some (.int .i64 x)) (h' : w.cell? ⟨b, 1, none⟩ = some (.int .i64 y)) : Calls Try.prog 33 #[.agg #[.int .i64 f, .int .i64 t, .bool l, .bool r], .pointer (some ⟨b, 0, none⟩)] w fun e w' => e = .returned (.bool (decide (f < y ∧ x < t))) ∧ Below w.heap.size w w' := by
  have hBW : b < w.heap.size := block_lt_of_cell h
  have hne : b ≠ w.heap.size := by omega
  go_enter Try.func33, Try.ntmps33
  go_wp2
  all_goals (go_ret; refine ⟨ret_bool ?_, (Below.refl _ _).alloc (Nat.le_refl _) _⟩; rw [Bool.eq_iff_iff]; simp; omega)

theorem stab (mb B last : Nat) (rs : List Rg) (x : Int) (w : World) (h : MarksAt w B mb rs last) : Calls Try.prog 18 #[.pointer (some ⟨mb, 0, none⟩), .int .i64 x] w (Gave w (ids (fun f t => decide (f ≤ x ∧ x < t)) rs)) := by
  have hb : Below w.heap.size w (w.alloc (Obj.cells #[.int .i64 x] 3)) := (Below.refl _ _).alloc (Nat.le_refl _) _
  have hlt : w.heap.size < (w.alloc (Obj.cells #[.int .i64 x] 3)).heap.size := by simp
  have hx : (w.alloc (Obj.cells #[.int .i64 x] 3)).cell? ⟨w.heap.size, 0, none⟩ = some (.int .i64 x) := by simp
  have TT := Lib.hid (those mb B last 32 #[.pointer (some ⟨w.heap.size, 0, none⟩)] (fun f t => decide (f ≤ x ∧ x < t)) rs _ (h.below hb) eg32 (fun W f t l r k => stab1 f t l r x _ W ((k.cell (by exact hlt)).trans hx)))
  clear hx hlt h
  go_enter Try.func18, Try.ntmps18
  go_wp2_with fail
  (with_reducible refine TT.out.mono ?_)
  rintro e w' ⟨v, rfl, o, b⟩
  have O := Lib.hid (own_mono (B' := w.heap.size) o (by simp))
  have BB := Lib.hid (hb.trans (b.mono hb.size))
  clear o b hb
  go_wp2
  go_ret
  exact ⟨_, rfl, O.out, BB.out⟩

theorem over (mb B last : Nat) (rs : List Rg) (x y : Int) (w : World) (h : MarksAt w B mb rs last) : Calls Try.prog 19 #[.pointer (some ⟨mb, 0, none⟩), .agg #[.int .i64 x, .int .i64 y]] w (Gave w (ids (fun f t => decide (f < y ∧ x < t)) rs)) := by
  have hb : Below w.heap.size w (w.alloc (Obj.cells #[.int .i64 x, .int .i64 y] 23)) := (Below.refl _ _).alloc (Nat.le_refl _) _
  have hlt : w.heap.size < (w.alloc (Obj.cells #[.int .i64 x, .int .i64 y] 23)).heap.size := by simp
  have hx : (w.alloc (Obj.cells #[.int .i64 x, .int .i64 y] 23)).cell? ⟨w.heap.size, 0, none⟩ = some (.int .i64 x) := by simp
  have hy : (w.alloc (Obj.cells #[.int .i64 x, .int .i64 y] 23)).cell? ⟨w.heap.size, 1, none⟩ = some (.int .i64 y) := by simp
  have TT := Lib.hid (those mb B last 33 #[.pointer (some ⟨w.heap.size, 0, none⟩)] (fun f t => decide (f < y ∧ x < t)) rs _ (h.below hb) eg33 (fun W f t l r k => over1 f t l r x y _ W ((k.cell (by exact hlt)).trans hx) ((k.cell (by exact hlt)).trans hy)))
  clear hx hy hlt h
  go_enter Try.func19, Try.ntmps19
  go_wp2_with fail
  (with_reducible refine TT.out.mono ?_)
  rintro e w' ⟨v, rfl, o, b⟩
  have O := Lib.hid (own_mono (B' := w.heap.size) o (by simp))
  have BB := Lib.hid (hb.trans (b.mono hb.size))
  clear o b hb
  go_wp2
  go_ret
  exact ⟨_, rfl, O.out, BB.out⟩
end Go.Proofs.Ytlihgcpiokaehaa
