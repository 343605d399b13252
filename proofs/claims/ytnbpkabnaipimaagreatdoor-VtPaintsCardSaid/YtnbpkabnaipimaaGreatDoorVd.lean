/- The contracts of slices.Concat at two slices of bytes, of bytes.Clone, and of slices.Clone of cells. Conditions: they lie in memory, not too many. -/
import Derived.Test.YtnbpkabnaipimaaGreatDoorLaws
import Derived.Test.YtnbpkabnaipimaaGreatDoorVgrow
import Derived.Laws.AppendOwnNone
import Derived.Lib.Hide
namespace Go.Proofs.YtnbpkabnaipimaaGreatDoor
open Go Go.RowKit Go.Lib

theorem info_cut {t : TypeId} {z : Value} {s b : Nat} (h : (Tryz.prog.info? t).map (fun i => (i.zero, i.size, i.bytes)) = some (some z, s, b)) : ∃ i, Tryz.prog.info? t = some i ∧ i.zero = some z ∧ i.size = s ∧ i.bytes = b := by
  cases hi : Tryz.prog.info? t with
  | none => rw [hi] at h; cases h
  | some i =>
    rw [hi] at h
    simp only [Option.map_some, Option.some.injEq, Prod.mk.injEq] at h
    exact ⟨i, rfl, h.1, h.2.1, h.2.2⟩
theorem SeqAt.cellsV {l : List Int} {a : Option Addr} {n : Nat} {w : World} (h : SeqAt .u8 w a n l) : ∀ ad, a = some ad → ∀ j u, (byV l)[j]? = some u → w.cell? (ad.add j) = some u := by
  intro ad ha j u hu
  have hj : j < l.length := by
    rcases Nat.lt_or_ge j l.length with h | h
    · exact h
    · rw [List.getElem?_eq_none (by rw [byV_len]; exact h)] at hu; cases hu
  rcases h.2 with h0 | ⟨b, off, e, _, hc⟩
  · have := h.1; omega
  · rw [ha] at e
    cases e
    unfold byV at hu
    rw [List.getElem?_map, List.getElem?_eq_getElem hj] at hu
    cases hu
    rw [Addr.add_lit, hc j _ (List.getElem?_eq_getElem hj)]

/-- Grow, of no slice. -/
theorem growAt (n : Nat) (w : World) (hn : n ≤ 1000000) : Calls Tryz.prog 39 #[.slice none 0 0, .int .i64 n] w fun e w' => ∃ v, e = .returned v ∧ w'.ownsRow w.heap.size 5 1 v 0 [] ∧ Below w.heap.size w w' := by
  obtain ⟨i2, hi2, hy0, hy1, hy2⟩ := info_cut Tryz.info5
  by_cases hz : n = 0
  · subst hz
    exact (Any8.slices_Grow_room Tryz.growB none 0 0 0 w (Nat.le_refl _) (by omega) (by omega) (Nat.le_refl _)).mono fun e w' ⟨he, hw⟩ => ⟨_, he, by subst hw; exact World.ownsRow_nil _ _ _ _, by subst hw; exact Below.refl _ _⟩
  · refine (Any8.slices_Grow_grow Tryz.growB i2 (.int .u8 0) hi2 hy0 (by rw [hy1]; omega) none 0 0 n [] w (Nat.le_refl _) (by omega) (by rw [hy2]; omega) (by omega) (by simp) (fun _ => rfl) (fun a h => by cases h)).mono ?_
    rintro e w' ⟨he, hw⟩
    refine ⟨_, he, ?_, by subst hw; exact (Below.refl _ _).drew.alloc (Nat.le_refl _) _⟩
    subst hw
    have hG : n ≤ grownCap w (0 + n) 0 5 := by have := grownCap_ge w (0 + n) 0 5; omega
    have hM : grownCap w (0 + n) 0 5 ≤ maxLen := grownCap_le_maxLen w _ _ _ (by unfold maxLen; omega)
    refine ⟨by simp, .inr ⟨w.heap.size, grownCap w (0 + n) 0 5, _, rfl, Nat.le_refl _, heap_alloc_new _ _, Nat.zero_le _, hM, ?_, by simp⟩⟩
    simp only [Array.size_append, List.size_toArray, size_zeroCells]
    have h2 : (Value.int .u8 0).cells.size = 1 := rfl
    show ([] : List Value).length + (0 + n - 0) * (Value.int .u8 0).cells.size + (grownCap w (0 + n) 0 5 - (0 + n)) * (Value.int .u8 0).cells.size = grownCap w (0 + n) 0 5 * 1
    rw [h2]
    simp only [List.length_nil]
    omega

/-- append of what lies in memory or is none, in a plain region. -/
theorem plain_append_in {P : Program} {w : World} {ops : Array Oper} {rest : List Oper} {o : Oper} {a : Act} {Q : Exit → Act → World → Prop} (hgd : o.guard = none) (s x : Operand) (t : TypeId)
    (ho : o.op = .call { callee := .builtin .append, args := #[s, x], argTypes := #[t, t] })
    (base : Nat) (e : TypeId) (i : TypeInfo) (z : Value) (size bytes : Nat) (ht : P.underlying t = some (.slice e)) (hi : P.info? e = some i) (hz : i.zero = some z)
    (hsize : i.size = size) (hby : i.bytes = bytes) (hzs : z.cells.size = size) (hsz : 0 < size)
    (v : Value) (n : Nat) (xs : List Value) (hs : a.eval s = v) (hown : w.ownsRow base e size v n xs)
    (ao : Option Addr) (m c : Nat) (news : List Value) (hx : a.eval x = .slice ao m c) (hno : ao = none → m = 0 ∧ c = 0) (hl : news.length = m * size) (hnews : ∀ ad, ao = some ad → ∀ j u, news[j]? = some u → w.cell? (ad.add j) = some u) (h1 : ∀ u ∈ news, u.oneCell' = true)
    (h63 : n + m ≤ maxLen) (hbytes : (n + m) * bytes ≤ 140737488355328) (hbase : base ≤ w.heap.size)
    (h : ∀ v' w', w'.ownsRow base e size v' (n + m) (xs ++ news) → w.grownBy w' v.ownBlock → wpList P ops Q rest (a.put o.dst v') w') : wpList P ops Q (o :: rest) a w := by
  cases ao with
  | some ad => exact wpList_append_own _ hgd s x t ho base e i z size bytes ht hi hz hsize hby hzs hsz v n xs hs hown ad m c news hx hl (hnews ad rfl) h1 h63 hbytes hbase fun v' w' k1 k2 _ => h v' w' k1 k2
  | none =>
    obtain ⟨rfl, rfl⟩ := hno rfl
    obtain rfl : news = [] := List.eq_nil_of_length_eq_zero (by simpa using hl)
    refine wpList_append_own_none hgd s x t ho base e i size ht hi v n xs hs hown hx ?_
    exact h v w (by simpa using hown) ⟨rfl, rfl, rfl, Nat.le_refl _, fun _ _ _ => rfl⟩

set_option maxHeartbeats 4000000 in
set_option maxRecDepth 100000 in
theorem concatAt (t c0 c1 : Nat) (a0 a1 : Option Addr) (l0 l1 : List Int) (w : World) (hn0 : l0.length ≤ 100000) (hn1 : l1.length ≤ 100000) (ho0 : a0 = none → l0.length = 0 ∧ c0 = 0) (ho1 : a1 = none → l1.length = 0 ∧ c1 = 0) (h0 : SeqAt .u8 w a0 l0.length l0) (h1 : SeqAt .u8 w a1 l1.length l1)
    (ht : t < w.heap.size) (q0 : w.cell? ⟨t, 0, none⟩ = some (.slice a0 l0.length c0)) (q1 : w.cell? ⟨t, 1, none⟩ = some (.slice a1 l1.length c1)) :
    Calls Tryz.prog 24 #[.slice (some ⟨t, 0, none⟩) 2 2] w fun e w' => ∃ v, e = .returned v ∧ w'.ownsRow w.heap.size 5 1 v (l0.length + l1.length) (byV (l0 ++ l1)) ∧ Below w.heap.size w w' := by
  obtain ⟨i2, hi2, hy0, hy1, hy2⟩ := info_cut Tryz.info5
  have H0 := Lib.hid h0
  have H1 := Lib.hid h1
  have N0 := Lib.hid ho0
  have N1 := Lib.hid ho1
  clear h0 h1 ho0 ho1
  have F0 := Lib.hid (show (byV l0).length = l0.length * 1 by rw [byV_len]; omega)
  have F1 := Lib.hid (show (byV l1).length = l1.length * 1 by rw [byV_len]; omega)
  go_enter Tryz.func24, Tryz.ntmps24
  go_wp2
  go_loopw [3, 5, 11] (fun v3 _ i wr => ∃ k : Nat, k ≤ 2 ∧ i = .int .i64 k ∧ wr = w ∧ (k = 0 → v3 = .int .i64 0) ∧ (k = 1 → v3 = .int .i64 l0.length) ∧ (k = 2 → v3 = .int .i64 ((l0.length : Int) + l1.length))) (fun _ _ i _ => 2 - (RowKit.intOf i).toNat)
  case atStart => exact ⟨0, by omega, rfl, rfl, fun _ => rfl, by omega, by omega⟩
  case round =>
    obtain ⟨k, hk, rfl, hwr, e0, e1, e2⟩ := hrel
    have hwr' := hwr.symm
    clear hwr
    subst hwr'
    match k, hk with
    | 0, _ =>
      obtain rfl := e0 rfl
      clear e0 e1 e2
      go_wp2
      go_roundw
      case rel => exact ⟨1, by omega, by go_num, by first | rfl | trivial, by omega, fun _ => by first | rfl | go_num, by omega⟩
      case measure => (simp [RowKit.intOf]; try omega)
    | 1, _ =>
      obtain rfl := e1 rfl
      clear e0 e1 e2
      go_wp2
      go_roundw
      case rel => exact ⟨2, by omega, by go_num, by first | rfl | trivial, by omega, by omega, fun _ => by first | rfl | go_num⟩
      case measure => (simp [RowKit.intOf]; try omega)
    | 2, _ =>
      obtain rfl := e2 rfl
      clear e0 e1 e2
      have G := Lib.hid (growAt (l0.length + l1.length) w (by omega))
      have en : ((l0.length + l1.length : Nat) : Int) = (l0.length : Int) + l1.length := by omega
      rw [en] at G
      clear en
      go_wp2_with fail
      (with_reducible refine G.out.mono ?_)
      rintro e w1 ⟨v1, rfl, own1, hb1⟩
      have O1 := Lib.hid own1
      have B1 := Lib.hid hb1
      clear own1 hb1 G
      go_wp2
      go_loopw [6, 8, 27] (fun v6 _ i wx => ∃ k : Nat, k ≤ 2 ∧ i = .int .i64 k ∧ Below w.heap.size w wx ∧ (k = 0 → wx.ownsRow w.heap.size 5 1 v6 0 []) ∧ (k = 1 → wx.ownsRow w.heap.size 5 1 v6 l0.length (byV l0)) ∧ (k = 2 → wx.ownsRow w.heap.size 5 1 v6 (l0.length + l1.length) (byV (l0 ++ l1)))) (fun _ _ i _ => 2 - (RowKit.intOf i).toNat)
      case atStart => exact ⟨0, by omega, rfl, B1.out, fun _ => O1.out, by omega, by omega⟩
      case round =>
        obtain ⟨k, hk, rfl, hbx, e0, e1, e2⟩ := hrel
        have p0 := (hbx.cell (p := ⟨t, 0, none⟩) (by exact ht)).trans q0
        have p1 := (hbx.cell (p := ⟨t, 1, none⟩) (by exact ht)).trans q1
        have BX := Lib.hid hbx
        match k, hk with
        | 0, _ =>
          have O := Lib.hid (e0 rfl)
          clear e0 e1 e2 hbx
          go_wp2_with (at_builtin; refine plain_append_in rfl _ _ 26 rfl w.heap.size 5 i2 (.int .u8 0) 1 1 Tryz.underlying26 hi2 hy0 hy1 hy2 rfl (by decide) _ 0 [] rfl O.out a0 l0.length c0 (byV l0) rfl N0.out F0.out (H0.out.below BX.out).cellsV (byV_one l0) (by unfold maxLen; omega) (by omega) BX.out.size ?_)
          intro v5 w5 own5 gr5
          have Q5 := Lib.hid (show w5.ownsRow w.heap.size 5 1 v5 l0.length (byV l0) by have h := own5; simpa using h)
          have B5 := Lib.hid (show Below w.heap.size w w5 from BX.out.grown gr5 BX.out.size (fun j hj => (O.out.lt j hj).1))
          clear own5 gr5
          go_wp2_with fail
          go_roundw
          case rel => exact ⟨1, by omega, by go_num, B5.out, by omega, fun _ => Q5.out, by omega⟩
          case measure => (simp [RowKit.intOf]; try omega)
        | 1, _ =>
          have O := Lib.hid (e1 rfl)
          clear e0 e1 e2 hbx
          go_wp2_with (at_builtin; refine plain_append_in rfl _ _ 26 rfl w.heap.size 5 i2 (.int .u8 0) 1 1 Tryz.underlying26 hi2 hy0 hy1 hy2 rfl (by decide) _ l0.length (byV l0) rfl O.out a1 l1.length c1 (byV l1) rfl N1.out F1.out (H1.out.below BX.out).cellsV (byV_one l1) (by unfold maxLen; omega) (by omega) BX.out.size ?_)
          intro v5 w5 own5 gr5
          have Q5 := Lib.hid (show w5.ownsRow w.heap.size 5 1 v5 (l0.length + l1.length) (byV (l0 ++ l1)) by rw [byV_append]; exact own5)
          have B5 := Lib.hid (show Below w.heap.size w w5 from BX.out.grown gr5 BX.out.size (fun j hj => (O.out.lt j hj).1))
          clear own5 gr5
          go_wp2_with fail
          go_roundw
          case rel => exact ⟨2, by omega, by go_num, B5.out, by omega, by omega, fun _ => Q5.out⟩
          case measure => (simp [RowKit.intOf]; try omega)
        | 2, _ =>
          have O := Lib.hid (e2 rfl)
          clear e0 e1 e2 hbx
          go_wp2
          go_ret
          exact ⟨_, rfl, O.out, BX.out⟩

theorem nil22 (a : Option Addr) (n c : Nat) (w : World) : (binOp .eql 26 (.slice a n c) (.slice none 0 0)).run Tryz.prog w = .ok (.bool a.isNone) w := Lib.run_eql_slice_nil w 26 5 a n c 0 0 Tryz.underlying26

theorem clone_none (w : World) : Calls Tryz.prog 26 #[.slice none 0 0] w fun e w' => e = .returned (.slice none 0 0) ∧ w = w' := by
  have hnil := nil22 none 0 0
  simp only [Option.isNone] at hnil
  go_enter Tryz.func26, Tryz.ntmps26
  go_wp2
  go_ret
  exact ⟨rfl, rfl⟩

theorem clone_some (ad : Addr) (c : Nat) (l : List Int) (w : World) (hn : l.length ≤ 200000) (hc : SeqAt .u8 w (some ad) l.length l) :
    Calls Tryz.prog 26 #[.slice (some ad) l.length c] w fun e w' => ∃ v, e = .returned v ∧ w'.ownsRow w.heap.size 5 1 v l.length (byV l) ∧ Below w.heap.size w w' := by
  obtain ⟨i0, hi, hz0, hz1, hz2⟩ := info_cut Tryz.info5
  have HL := Lib.hid (show (byV l).length = l.length * 1 by rw [byV_len]; omega)
  have HC := Lib.hid (show ∀ j u, (byV l)[j]? = some u → (w.alloc (Obj.cells #[] 5)).cell? (ad.add j) = some u from fun j u hu => Lib.cell?_alloc_some _ (hc.cellsV ad rfl j u hu))
  clear hc
  have hnil := nil22 (some ad) l.length c
  simp only [Option.isNone] at hnil
  go_enter Tryz.func26, Tryz.ntmps26
  go_wp2_with (at_builtin; refine wpList_append_own _ rfl _ _ 26 rfl w.heap.size 5 i0 _ 1 1 Tryz.underlying26 hi hz0 hz1 hz2 rfl (by decide) _ 0 [] rfl (World.ownsRow_lit w #[] 0 (Nat.le_refl _) (by unfold maxLen; omega) rfl) ad l.length c (byV l) rfl HL.out HC.out (byV_one l) (by unfold maxLen; omega) (by omega) (by simp) ?_)
  intro v2 w2 own2 gr2 _
  have O2 := Lib.hid (show w2.ownsRow w.heap.size 5 1 v2 l.length (byV l) by have h := own2; simpa using h)
  have B2 := Lib.hid (show Below w.heap.size w w2 from ((Below.refl _ _).alloc (Nat.le_refl _) _).grown gr2 (by simp) (fun k hk => by simp [Value.ownBlock] at hk; omega))
  clear own2 gr2
  go_wp2
  go_ret
  exact ⟨_, rfl, O2.out, B2.out⟩

theorem cloneAt (a : Option Addr) (c : Nat) (l : List Int) (w : World) (hn : l.length ≤ 200000) (hno : a = none → l.length = 0 ∧ c = 0) (h : SeqAt .u8 w a l.length l) :
    Calls Tryz.prog 26 #[.slice a l.length c] w fun e w' => ∃ v, e = .returned v ∧ w'.ownsRow w.heap.size 5 1 v l.length (byV l) ∧ Below w.heap.size w w' := by
  cases a with
  | none =>
    obtain ⟨h0, rfl⟩ := hno rfl
    have e : l = [] := List.eq_nil_of_length_eq_zero h0
    subst e
    exact (clone_none w).mono fun e w' ⟨he, hw⟩ => ⟨_, he, by subst hw; exact World.ownsRow_nil _ _ _ _, by subst hw; exact Below.refl _ _⟩
  | some ad => exact clone_some ad c l w hn h
end Go.Proofs.YtnbpkabnaipimaaGreatDoor
