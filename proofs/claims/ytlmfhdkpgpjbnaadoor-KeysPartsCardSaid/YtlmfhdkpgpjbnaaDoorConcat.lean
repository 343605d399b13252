/- The contracts of slices.Concat at two slices of bytes, and of slices.Clone. Conditions: they lie in memory, not too many. -/
import Derived.Test.YtlmfhdkpgpjbnaaDoorWalkN
import Derived.Laws.AppendOwnNone
namespace Go.Proofs.YtlmfhdkpgpjbnaaDoor
open Go Go.RowKit Go.Lib

theorem Tryd.info5 : (Tryd.prog.info? 5).map (fun i => (i.zero, i.size, i.bytes)) = some (some (.int .u8 0), 1, 1) := by kernel_rfl

/-- Bytes as cells. -/
def byteVals (l : List UInt8) : List Value := l.map fun x => Value.int .u8 (x.toNat : Int)
theorem byteVals_len (l : List UInt8) : (byteVals l).length = l.length := by simp [byteVals]
theorem byteVals_one (l : List UInt8) : ∀ u ∈ byteVals l, u.oneCell' = true := by
  intro u hu
  unfold byteVals at hu
  rw [List.mem_map] at hu
  obtain ⟨x, _, rfl⟩ := hu
  rfl
theorem byteVals_append (l m : List UInt8) : byteVals (l ++ m) = byteVals l ++ byteVals m := by simp [byteVals]
theorem byteVals_get (l : List UInt8) (j : Nat) (h : j < l.length) : (byteVals l)[j]? = some (.int .u8 (bAt l j)) := by
  unfold byteVals bAt
  rw [List.getElem?_map, List.getElem?_eq_getElem h, List.getD_eq_getElem?_getD, List.getElem?_eq_getElem h]
  rfl
theorem BytesIn.cells {l : List UInt8} {a : Option Addr} {w : World} (h : BytesIn l a w) : ∀ ad, a = some ad → ∀ j u, (byteVals l)[j]? = some u → w.cell? (ad.add j) = some u := by
  intro ad ha j u hu
  have hj : j < l.length := by
    rcases Nat.lt_or_ge j l.length with h | h
    · exact h
    · rw [List.getElem?_eq_none (by rw [byteVals_len]; exact h)] at hu; cases hu
  rcases h with h0 | ⟨b, off, e, _, hc⟩
  · omega
  · rw [ha] at e
    cases e
    rw [Addr.add_lit, hc j hj, ← byteVals_get l j hj, hu]
theorem own_bytes {w : World} {B n : Nat} {v : Value} {l : List UInt8} (h : w.ownsRow B 5 1 v n (byteVals l)) : ∃ a cap, v = .slice a l.length cap ∧ BytesIn l a w ∧ l.length ≤ cap ∧ cap ≤ 9223372036854775807 ∧ (a = none → l.length = 0 ∧ cap = 0) ∧ (∀ ad, a = some ad → B ≤ ad.block) := by
  have hl : l.length = n := by have := h.1; rw [byteVals_len] at this; omega
  have h2 := h.2
  rcases h2 with ⟨rfl, h0⟩ | ⟨g, cap, cur, rfl, hB, hh, hcap, hmax, _⟩
  · exact ⟨none, 0, by rw [hl, h0], .inl (by omega), by omega, by omega, (fun _ => ⟨by omega, rfl⟩), (fun ad he => by cases he)⟩
  · refine ⟨some ⟨g, 0, none⟩, cap, by rw [hl], .inr ⟨g, 0, rfl, (Array.getElem?_eq_some_iff.1 hh).1, fun j hj => ?_⟩, by omega, by unfold maxLen at hmax; omega, (fun e => by cases e), (fun ad he => by cases he; exact hB)⟩
    have := h.cellAt j (by omega)
    rw [Nat.zero_add, this, byteVals_get l j hj]

/-- Grow, of no slice. -/
theorem growAt (n : Nat) (w : World) (hn : n ≤ 10000) : Calls Tryd.prog 11 #[.slice none 0 0, .int .i64 n] w fun e w' => ∃ v, e = .returned v ∧ w'.ownsRow w.heap.size 5 1 v 0 [] ∧ Below w.heap.size w w' := by
  obtain ⟨i2, hi2, hy0, hy1, hy2⟩ := info_cut Tryd.info5
  by_cases hz : n = 0
  · subst hz
    exact (Any8.slices_Grow_room Tryd.growB none 0 0 0 w (Nat.le_refl _) (by omega) (by omega) (Nat.le_refl _)).mono fun e w' ⟨he, hw⟩ => ⟨_, he, by subst hw; exact World.ownsRow_nil _ _ _ _, by subst hw; exact Below.refl _ _⟩
  · refine (Any8.slices_Grow_grow Tryd.growB i2 (.int .u8 0) hi2 hy0 (by rw [hy1]; omega) none 0 0 n [] w (Nat.le_refl _) (by omega) (by rw [hy2]; omega) (by omega) (by simp) (fun _ => rfl) (fun a h => by cases h)).mono ?_
    rintro e w' ⟨he, hw⟩
    refine ⟨_, he, ?_, by subst hw; exact (Below.refl _ _).drew.alloc (Nat.le_refl _) _⟩
    subst hw
    have hG : n ≤ grownCap w (0 + n) 0 5 := by have := grownCap_ge w (0 + n) 0 5; omega
    have hM : grownCap w (0 + n) 0 5 ≤ maxLen := grownCap_le_maxLen w _ _ _ (by unfold maxLen; omega)
    refine ⟨by simp, .inr ⟨w.heap.size, grownCap w (0 + n) 0 5, _, rfl, Nat.le_refl _, heap_alloc_new _ _, Nat.zero_le _, hM, ?_, by simp⟩⟩
    simp only [Array.size_append, List.size_toArray, size_zeroCells]
    have h2 : (Value.int .u8 0).cells.size = 1 := rfl
    show ([] : List Value).length + (0 + n - 0) * (Value.int .u8 0).cells.size + (grownCap w (0 + n) 0 5 - (0 + n)) * (Value.int .u8 0).cells.size = grownCap w (0 + n) 0 5 * 1
    rw [h2]
    simp only [List.length_nil]
    omega

/-- append of what lies in memory or is none, in a plain region. -/
theorem plain_append_in {P : Program} {w : World} {ops : Array Oper} {rest : List Oper} {o : Oper} {a : Act} {Q : Exit → Act → World → Prop} (hgd : o.guard = none) (s x : Operand) (t : TypeId)
    (ho : o.op = .call { callee := .builtin .append, args := #[s, x], argTypes := #[t, t] })
    (base : Nat) (e : TypeId) (i : TypeInfo) (z : Value) (size bytes : Nat) (ht : P.underlying t = some (.slice e)) (hi : P.info? e = some i) (hz : i.zero = some z)
    (hsize : i.size = size) (hby : i.bytes = bytes) (hzs : z.cells.size = size) (hsz : 0 < size)
    (v : Value) (n : Nat) (xs : List Value) (hs : a.eval s = v) (hown : w.ownsRow base e size v n xs)
    (ao : Option Addr) (m c : Nat) (news : List Value) (hx : a.eval x = .slice ao m c) (hno : ao = none → m = 0 ∧ c = 0) (hl : news.length = m * size) (hnews : ∀ ad, ao = some ad → ∀ j u, news[j]? = some u → w.cell? (ad.add j) = some u) (h1 : ∀ u ∈ news, u.oneCell' = true)
    (h63 : n + m ≤ maxLen) (hbytes : (n + m) * bytes ≤ 140737488355328) (hbase : base ≤ w.heap.size)
    (h : ∀ v' w', w'.ownsRow base e size v' (n + m) (xs ++ news) → w.grownBy w' v.ownBlock → wpList P ops Q rest (a.put o.dst v') w') : wpList P ops Q (o :: rest) a w := by
  cases ao with
  | some ad => exact wpList_append_own _ hgd s x t ho base e i z size bytes ht hi hz hsize hby hzs hsz v n xs hs hown ad m c news hx hl (hnews ad rfl) h1 h63 hbytes hbase fun v' w' k1 k2 _ => h v' w' k1 k2
  | none =>
    obtain ⟨rfl, rfl⟩ := hno rfl
    obtain rfl : news = [] := List.eq_nil_of_length_eq_zero (by simpa using hl)
    refine wpList_append_own_none hgd s x t ho base e i size ht hi v n xs hs hown hx ?_
    exact h v w (by simpa using hown) ⟨rfl, rfl, rfl, Nat.le_refl _, fun _ _ _ => rfl⟩

set_option maxHeartbeats 4000000 in
set_option maxRecDepth 100000 in
theorem concatAt (t c0 c1 : Nat) (a0 a1 : Option Addr) (l0 l1 : List UInt8) (w : World) (hn0 : l0.length ≤ 1000) (hn1 : l1.length ≤ 1000) (ho0 : a0 = none → l0.length = 0 ∧ c0 = 0) (ho1 : a1 = none → l1.length = 0 ∧ c1 = 0) (h0 : BytesIn l0 a0 w) (h1 : BytesIn l1 a1 w)
    (ht : t < w.heap.size) (q0 : w.cell? ⟨t, 0, none⟩ = some (.slice a0 l0.length c0)) (q1 : w.cell? ⟨t, 1, none⟩ = some (.slice a1 l1.length c1)) :
    Calls Tryd.prog 8 #[.slice (some ⟨t, 0, none⟩) 2 2] w fun e w' => ∃ v, e = .returned v ∧ w'.ownsRow w.heap.size 5 1 v (l0.length + l1.length) (byteVals (l0 ++ l1)) ∧ Below w.heap.size w w' := by
  obtain ⟨i2, hi2, hy0, hy1, hy2⟩ := info_cut Tryd.info5
  have H0 := Lib.hid h0
  have H1 := Lib.hid h1
  have N0 := Lib.hid ho0
  have N1 := Lib.hid ho1
  clear h0 h1 ho0 ho1
  have F0 := Lib.hid (show (byteVals l0).length = l0.length * 1 by rw [byteVals_len]; omega)
  have F1 := Lib.hid (show (byteVals l1).length = l1.length * 1 by rw [byteVals_len]; omega)
  go_enter Tryd.func8, Tryd.ntmps8
  go_wp2
  go_loopw [3, 5, 11] (fun v3 _ i wr => ∃ k : Nat, k ≤ 2 ∧ i = .int .i64 k ∧ wr = w ∧ (k = 0 → v3 = .int .i64 0) ∧ (k = 1 → v3 = .int .i64 l0.length) ∧ (k = 2 → v3 = .int .i64 ((l0.length : Int) + l1.length))) (fun _ _ i _ => 2 - (RowKit.intOf i).toNat)
  case atStart => exact ⟨0, by omega, rfl, rfl, fun _ => rfl, by omega, by omega⟩
  case round =>
    obtain ⟨k, hk, rfl, hwr, e0, e1, e2⟩ := hrel
    have hwr' := hwr.symm
    clear hwr
    subst hwr'
    match k, hk with
    | 0, _ =>
      obtain rfl := e0 rfl
      clear e0 e1 e2
      go_wp2
      go_roundw
      case rel => exact ⟨1, by omega, by go_num, by first | rfl | trivial, by omega, fun _ => by first | rfl | go_num, by omega⟩
      case measure => (simp [RowKit.intOf]; try omega)
    | 1, _ =>
      obtain rfl := e1 rfl
      clear e0 e1 e2
      go_wp2
      go_roundw
      case rel => exact ⟨2, by omega, by go_num, by first | rfl | trivial, by omega, by omega, fun _ => by first | rfl | go_num⟩
      case measure => (simp [RowKit.intOf]; try omega)
    | 2, _ =>
      obtain rfl := e2 rfl
      clear e0 e1 e2
      have G := Lib.hid (growAt (l0.length + l1.length) w (by omega))
      have en : ((l0.length + l1.length : Nat) : Int) = (l0.length : Int) + l1.length := by omega
      rw [en] at G
      clear en
      go_wp2_with fail
      (with_reducible refine G.out.mono ?_)
      rintro e w1 ⟨v1, rfl, own1, hb1⟩
      have O1 := Lib.hid own1
      have B1 := Lib.hid hb1
      clear own1 hb1 G
      go_wp2
      go_loopw [6, 8, 27] (fun v6 _ i wx => ∃ k : Nat, k ≤ 2 ∧ i = .int .i64 k ∧ Below w.heap.size w wx ∧ (k = 0 → wx.ownsRow w.heap.size 5 1 v6 0 []) ∧ (k = 1 → wx.ownsRow w.heap.size 5 1 v6 l0.length (byteVals l0)) ∧ (k = 2 → wx.ownsRow w.heap.size 5 1 v6 (l0.length + l1.length) (byteVals (l0 ++ l1)))) (fun _ _ i _ => 2 - (RowKit.intOf i).toNat)
      case atStart => exact ⟨0, by omega, rfl, B1.out, fun _ => O1.out, by omega, by omega⟩
      case round =>
        obtain ⟨k, hk, rfl, hbx, e0, e1, e2⟩ := hrel
        have p0 := (hbx.cell (p := ⟨t, 0, none⟩) (by exact ht)).trans q0
        have p1 := (hbx.cell (p := ⟨t, 1, none⟩) (by exact ht)).trans q1
        have BX := Lib.hid hbx
        match k, hk with
        | 0, _ =>
          have O := Lib.hid (e0 rfl)
          clear e0 e1 e2 hbx
          go_wp2_with (at_builtin; refine plain_append_in rfl _ _ 22 rfl w.heap.size 5 i2 (.int .u8 0) 1 1 Tryd.underlying22 hi2 hy0 hy1 hy2 rfl (by decide) _ 0 [] rfl O.out a0 l0.length c0 (byteVals l0) rfl N0.out F0.out (H0.out.below BX.out).cells (byteVals_one l0) (by unfold maxLen; omega) (by omega) BX.out.size ?_)
          intro v5 w5 own5 gr5
          have Q5 := Lib.hid (show w5.ownsRow w.heap.size 5 1 v5 l0.length (byteVals l0) by have h := own5; simpa using h)
          have B5 := Lib.hid (show Below w.heap.size w w5 from BX.out.grown gr5 BX.out.size (fun j hj => (O.out.lt j hj).1))
          clear own5 gr5
          go_wp2_with fail
          go_roundw
          case rel => exact ⟨1, by omega, by go_num, B5.out, by omega, fun _ => Q5.out, by omega⟩
          case measure => (simp [RowKit.intOf]; try omega)
        | 1, _ =>
          have O := Lib.hid (e1 rfl)
          clear e0 e1 e2 hbx
          go_wp2_with (at_builtin; refine plain_append_in rfl _ _ 22 rfl w.heap.size 5 i2 (.int .u8 0) 1 1 Tryd.underlying22 hi2 hy0 hy1 hy2 rfl (by decide) _ l0.length (byteVals l0) rfl O.out a1 l1.length c1 (byteVals l1) rfl N1.out F1.out (H1.out.below BX.out).cells (byteVals_one l1) (by unfold maxLen; omega) (by omega) BX.out.size ?_)
          intro v5 w5 own5 gr5
          have Q5 := Lib.hid (show w5.ownsRow w.heap.size 5 1 v5 (l0.length + l1.length) (byteVals (l0 ++ l1)) by rw [byteVals_append]; exact own5)
          have B5 := Lib.hid (show Below w.heap.size w w5 from BX.out.grown gr5 BX.out.size (fun j hj => (O.out.lt j hj).1))
          clear own5 gr5
          go_wp2_with fail
          go_roundw
          case rel => exact ⟨2, by omega, by go_num, B5.out, by omega, by omega, fun _ => Q5.out⟩
          case measure => (simp [RowKit.intOf]; try omega)
        | 2, _ =>
          have O := Lib.hid (e2 rfl)
          clear e0 e1 e2 hbx
          go_wp2
          go_ret
          exact ⟨_, rfl, O.out, BX.out⟩

theorem nil22 (a : Option Addr) (n c : Nat) (w : World) : (binOp .eql 22 (.slice a n c) (.slice none 0 0)).run Tryd.prog w = .ok (.bool a.isNone) w := Lib.run_eql_slice_nil w 22 5 a n c 0 0 Tryd.underlying22

theorem clone_none (w : World) : Calls Tryd.prog 10 #[.slice none 0 0] w fun e w' => e = .returned (.slice none 0 0) ∧ w = w' := by
  have hnil := nil22 none 0 0
  simp only [Option.isNone] at hnil
  go_enter Tryd.func10, Tryd.ntmps10
  go_wp2
  go_ret
  exact ⟨rfl, rfl⟩

theorem clone_some (ad : Addr) (c : Nat) (l : List UInt8) (w : World) (hn : l.length ≤ 2000) (hc : BytesIn l (some ad) w) :
    Calls Tryd.prog 10 #[.slice (some ad) l.length c] w fun e w' => ∃ v, e = .returned v ∧ w'.ownsRow w.heap.size 5 1 v l.length (byteVals l) ∧ Below w.heap.size w w' := by
  obtain ⟨i0, hi, hz0, hz1, hz2⟩ := info_cut Tryd.info5
  have HL := Lib.hid (show (byteVals l).length = l.length * 1 by rw [byteVals_len]; omega)
  have HC := Lib.hid (show ∀ j u, (byteVals l)[j]? = some u → (w.alloc (Obj.cells #[] 5)).cell? (ad.add j) = some u from fun j u hu => Lib.cell?_alloc_some _ (hc.cells ad rfl j u hu))
  clear hc
  have hnil := nil22 (some ad) l.length c
  simp only [Option.isNone] at hnil
  go_enter Tryd.func10, Tryd.ntmps10
  go_wp2_with (at_builtin; refine wpList_append_own _ rfl _ _ 22 rfl w.heap.size 5 i0 _ 1 1 Tryd.underlying22 hi hz0 hz1 hz2 rfl (by decide) _ 0 [] rfl (World.ownsRow_lit w #[] 0 (Nat.le_refl _) (by unfold maxLen; omega) rfl) ad l.length c (byteVals l) rfl HL.out HC.out (byteVals_one l) (by unfold maxLen; omega) (by omega) (by simp) ?_)
  intro v2 w2 own2 gr2 _
  have O2 := Lib.hid (show w2.ownsRow w.heap.size 5 1 v2 l.length (byteVals l) by have h := own2; simpa using h)
  have B2 := Lib.hid (show Below w.heap.size w w2 from ((Below.refl _ _).alloc (Nat.le_refl _) _).grown gr2 (by simp) (fun k hk => by simp [Value.ownBlock] at hk; omega))
  clear own2 gr2
  go_wp2
  go_ret
  exact ⟨_, rfl, O2.out, B2.out⟩

theorem cloneAt (a : Option Addr) (c : Nat) (l : List UInt8) (w : World) (hn : l.length ≤ 2000) (hno : a = none → l.length = 0 ∧ c = 0) (h : BytesIn l a w) :
    Calls Tryd.prog 10 #[.slice a l.length c] w fun e w' => ∃ v, e = .returned v ∧ w'.ownsRow w.heap.size 5 1 v l.length (byteVals l) ∧ Below w.heap.size w w' := by
  cases a with
  | none =>
    obtain ⟨h0, rfl⟩ := hno rfl
    have e : l = [] := List.eq_nil_of_length_eq_zero h0
    subst e
    exact (clone_none w).mono fun e w' ⟨he, hw⟩ => ⟨_, he, by subst hw; exact World.ownsRow_nil _ _ _ _, by subst hw; exact Below.refl _ _⟩
  | some ad => exact clone_some ad c l w hn h
end Go.Proofs.YtlmfhdkpgpjbnaaDoor
