/- The contracts of the reference's whole, begun and First. Conditions: the bytes lie in memory. -/
import Derived.Test.YtcpfillmdkhjlaaDoorWalkG
import Derived.Test.YtcpfillmdkhjlaaDoorApart
namespace Go.Proofs.YtcpfillmdkhjlaaDoor
open Go Go.RowKit Go.Lib

/-- What whole answers, of what value answered. -/
def wholeOf (v : Int × Bool) (n : Nat) : Int × Bool := if v.2 = true ∧ Lib.validRune v.1 = true then (v.1, decide ((Lib.runeCells v.1).length = n)) else (0, false)

theorem whole_any (a : Option Addr) (n cap : Nat) (r : Int) (ok : Bool) (w : World) (hn : n ≤ 4)
    (hv : Calls Tryd.prog 27 #[.slice a n cap] w fun e w' => e = .returned (.tuple #[.int .i32 r, .bool ok]) ∧ w = w') :
    Calls Tryd.prog 22 #[.slice a n cap] w fun e w' => e = .returned (.tuple #[.int .i32 (wholeOf (r, ok) n).1, .bool (wholeOf (r, ok) n).2]) ∧ Below w.heap.size w w' := by
  have HV := Lib.hid hv
  clear hv
  have l4 := (Lib.runeCells_le r).2
  cases ok
  · have e : wholeOf (r, false) n = (0, false) := by simp [wholeOf]
    rw [e]
    go_enter Tryd.func22, Tryd.ntmps22
    go_wp2_with (go_at_call 27; refine HV.out.mono ?_; rintro e w' ⟨rfl, rfl⟩)
    go_ret2
    exact ⟨rfl, Below.refl _ _⟩
  · cases hr : Lib.validRune r
    · have e : wholeOf (r, true) n = (0, false) := by simp [wholeOf, hr]
      rw [e]
      go_enter Tryd.func22, Tryd.ntmps22
      go_wp2_with (first
        | (go_at_call 27; refine HV.out.mono ?_; rintro e w' ⟨rfl, rfl⟩)
        | (go_at_call 8; refine (refRight _ _).mono ?_; rintro e w' ⟨rfl, rfl⟩))
      go_ret2
      exact ⟨rfl, Below.refl _ _⟩
    · have e : wholeOf (r, true) n = (r, decide ((Lib.runeCells r).length = n)) := by simp [wholeOf, hr]
      rw [e]
      have HR := Lib.hid hr
      go_enter Tryd.func22, Tryd.ntmps22
      go_wp2_with (first
        | (go_at_call 27; refine HV.out.mono ?_; rintro e w' ⟨rfl, rfl⟩)
        | (go_at_call 8; refine (refRight _ _).mono ?_; rintro e w' ⟨rfl, rfl⟩)
        | (go_at_call 19; refine (refOne _ _ HR.out).mono ?_; rintro e w' ⟨rfl, rfl⟩))
      go_ret2
      refine ⟨ret_two ?_, (Below.refl _ _).alloc (Nat.le_refl _) _⟩
      simp only [Prod.mk.injEq, true_and]
      rw [Bool.eq_iff_iff]
      simp
      omega

/-- What whole answers, of one to four bytes. -/
def wholeL : List Nat → Int × Bool
  | [x0] => wholeOf (value1 x0) 1
  | [x0, x1] => wholeOf (value2 x0 x1) 2
  | [x0, x1, x2] => wholeOf (value3 x0 x1 x2) 3
  | [x0, x1, x2, x3] => wholeOf (value4 x0 x1 x2 x3) 4
  | _ => (0, false)

theorem whole_list (l : List Nat) (h1 : 1 ≤ l.length) (h4 : l.length ≤ 4) (hb : ∀ x ∈ l, x < 256) (b off cap : Nat) (w : World) (hc : ∀ (j x : Nat), l[j]? = some x → w.cell? ⟨b, off + j, none⟩ = some (.int .u8 (x : Int))) :
    Calls Tryd.prog 22 #[.slice (some ⟨b, off, none⟩) l.length cap] w fun e w' => e = .returned (.tuple #[.int .i32 (wholeL l).1, .bool (wholeL l).2]) ∧ Below w.heap.size w w' := by
  match l, h1, h4 with
  | [x0], _, _ =>
    exact whole_any _ 1 cap _ _ w (by omega) (refValue1 b off cap x0 w (hb _ (by simp)) (hc 0 _ rfl))
  | [x0, x1], _, _ =>
    exact whole_any _ 2 cap _ _ w (by omega) (refValue2 b off cap x0 x1 w (hb _ (by simp)) (hb _ (by simp)) (hc 0 _ rfl) (hc 1 _ rfl))
  | [x0, x1, x2], _, _ =>
    exact whole_any _ 3 cap _ _ w (by omega) (refValue3 b off cap x0 x1 x2 w (hb _ (by simp)) (hb _ (by simp)) (hb _ (by simp)) (hc 0 _ rfl) (hc 1 _ rfl) (hc 2 _ rfl))
  | [x0, x1, x2, x3], _, _ =>
    exact whole_any _ 4 cap _ _ w (by omega) (refValue4 b off cap x0 x1 x2 x3 w (hb _ (by simp)) (hb _ (by simp)) (hb _ (by simp)) (hb _ (by simp)) (hc 0 _ rfl) (hc 1 _ rfl) (hc 2 _ rfl) (hc 3 _ rfl))

/-- Bytes with more behind them, n in all. -/
def pad (l : List Nat) (y n : Nat) : List Nat := l ++ List.replicate (n - l.length) y
def okAt (l : List Nat) (n : Nat) : Bool := (wholeL (pad l 128 n)).2 || (wholeL (pad l 191 n)).2

/-- What begun answers. -/
def begunL (l : List Nat) : Bool := (decide (l.length < 2) && okAt l 2) || (decide (l.length < 3) && okAt l 3) || (decide (l.length < 4) && okAt l 4)
theorem begunL_true (l : List Nat) (m : Nat) (h1 : l.length < m) (h2 : 1 < m) (h4 : m ≤ 4) (h : okAt l m = true) : begunL l = true := by
  rcases (show m = 2 ∨ m = 3 ∨ m = 4 by omega) with rfl | rfl | rfl <;> simp [begunL, h, h1]
theorem begunL_false (l : List Nat) (h : ∀ m, l.length < m → m ≤ 4 → okAt l m = false) : begunL l = false := by
  have f : ∀ m, m ≤ 4 → (decide (l.length < m) && okAt l m) = false := fun m hm => by
    by_cases hl : l.length < m
    · simp [h m hl hm]
    · simp [hl]
  simp only [begunL, f 2 (by omega), f 3 (by omega), f 4 (by omega), Bool.or_false]

def cellsOf8 (l : List Nat) : List Value := l.map fun (x : Nat) => Value.int .u8 (x : Int)

theorem cellsOf8_length (l : List Nat) : (cellsOf8 l).length = l.length := by simp [cellsOf8]
theorem cellsOf8_one (l : List Nat) : ∀ u ∈ cellsOf8 l, u.oneCell' = true := by
  intro u hu
  obtain ⟨x, _, rfl⟩ := List.mem_map.1 hu
  rfl
theorem src_in (l : List Nat) (b off : Nat) (w : World) (hbw : b < w.heap.size) (hc : ∀ (j x : Nat), l[j]? = some x → w.cell? ⟨b, off + j, none⟩ = some (.int .u8 (x : Int))) (W : World) (hW : Below w.heap.size w W) : ∀ j u, (cellsOf8 l)[j]? = some u → W.cell? ((⟨b, off, none⟩ : Addr).add j) = some u := by
  intro j u hj
  simp only [cellsOf8, List.getElem?_map, Option.map_eq_some_iff] at hj
  obtain ⟨x, hx, rfl⟩ := hj
  rw [Addr.add_lit]
  exact (hW.cell (by exact hbw)).trans (hc j x hx)

theorem pad_self (l : List Nat) (y L : Nat) (h : l.length = L) : pad l y L = l := by simp [pad, h]
theorem pad_length (l : List Nat) (y n : Nat) (h : l.length ≤ n) : (pad l y n).length = n := by simp [pad]; omega
theorem pad_succ (l : List Nat) (y m : Nat) (h : l.length ≤ m) : cellsOf8 (pad l y (m + 1)) = cellsOf8 (pad l y m) ++ [.int .u8 (y : Int)] := by
  unfold pad cellsOf8
  rw [show m + 1 - l.length = (m - l.length) + 1 by omega, List.replicate_succ', ← List.append_assoc]
  simp

/-- Two rows of bytes that the call owns, apart. -/
def Rows2 (B : Nat) (w : World) (a c : Value) (m : Nat) (xs ys : List Value) : Prop :=
  w.ownsRow B 5 1 a m xs ∧ w.ownsRow B 5 1 c m ys ∧ a.ownBlock ≠ c.ownBlock
def lenOf : Value → Nat
  | .slice _ n _ => n
  | _ => 0

theorem rows_start {B L : Nat} {w1 w2 : World} {v1 v2 : Value} {xs : List Value} (hL : 0 < L) (o1 : w1.ownsRow B 5 1 v1 L xs) (o2 : w2.ownsRow B 5 1 v2 L xs)
    (g2 : (w1.alloc (.cells #[] 5)).grownBy w2 (some w1.heap.size)) (p2 : v2.ownBlock = some w1.heap.size ∨ ∀ k, v2.ownBlock = some k → w1.heap.size + 1 ≤ k) : Rows2 B w2 v1 v2 L xs xs := by
  obtain ⟨g1, c1, rfl, _⟩ := own_form o1 hL
  obtain ⟨g3, c3, rfl, _⟩ := own_form o2 hL
  have hlt := (o1.lt g1 rfl).2
  refine ⟨(o1.alloc _).kept g2 (.inr ?_), o2, ?_⟩
  · simp [Value.ownBlock]; omega
  · simp only [Value.ownBlock, ne_eq, Option.some.injEq] at p2 ⊢
    rcases p2 with h | h
    · omega
    · have := h g3 rfl
      omega

theorem rows_low {B m : Nat} {wq w3 : World} {a c v3 : Value} {xs ys news : List Value} {o : Obj} (hm : 0 < m) (h : Rows2 B wq a c m xs ys) (o3 : w3.ownsRow B 5 1 v3 (m + 1) (xs ++ news))
    (g3 : (wq.alloc o).grownBy w3 a.ownBlock) (p3 : v3.ownBlock = a.ownBlock ∨ ∀ k, v3.ownBlock = some k → wq.heap.size + 1 ≤ k) :
    w3.ownsRow B 5 1 v3 (m + 1) (xs ++ news) ∧ w3.ownsRow B 5 1 c m ys ∧ v3.ownBlock ≠ c.ownBlock := by
  obtain ⟨h1, h2, h3⟩ := h
  refine ⟨o3, (h2.alloc _).kept g3 (.inr (Ne.symm h3)), ?_⟩
  rcases p3 with h | h
  · rw [h]; exact h3
  · obtain ⟨gc, cc, rfl, _⟩ := own_form h2 hm
    obtain ⟨g3, c3, rfl, _⟩ := own_form o3 (by omega)
    have l1 := (h2.lt gc rfl).2
    have l2 := h g3 rfl
    simp only [Value.ownBlock, ne_eq, Option.some.injEq]
    omega
theorem rows_high {B m : Nat} {w3 w4 : World} {v3 c v4 : Value} {xs ys news : List Value} {o : Obj} (h : w3.ownsRow B 5 1 v3 (m + 1) xs ∧ w3.ownsRow B 5 1 c m ys ∧ v3.ownBlock ≠ c.ownBlock) (o4 : w4.ownsRow B 5 1 v4 (m + 1) (ys ++ news))
    (g4 : (w3.alloc o).grownBy w4 c.ownBlock) (p4 : v4.ownBlock = c.ownBlock ∨ ∀ k, v4.ownBlock = some k → w3.heap.size + 1 ≤ k) : Rows2 B w4 v3 v4 (m + 1) xs (ys ++ news) := by
  obtain ⟨h1, h2, h3⟩ := h
  refine ⟨(h1.alloc _).kept g4 (.inr h3), o4, ?_⟩
  rcases p4 with h | h
  · rw [h]; exact h3
  · obtain ⟨gc, cc, rfl, _⟩ := own_form h1 (by omega)
    obtain ⟨g3, c3, rfl, _⟩ := own_form o4 (by omega)
    have l1 := (h1.lt gc rfl).2
    have l2 := h g3 rfl
    simp only [Value.ownBlock, ne_eq, Option.some.injEq]
    omega

theorem whole_own {w : World} {B N : Nat} (l : List Nat) (hN : l.length = N) (h1 : 1 ≤ N) (h4 : N ≤ 4) (hb : ∀ x ∈ l, x < 256) (g cap : Nat) (ho : w.ownsRow B 5 1 (.slice (some ⟨g, 0, none⟩) N cap) N (cellsOf8 l)) :
    Calls Tryd.prog 22 #[.slice (some ⟨g, 0, none⟩) N cap] w fun e w' => e = .returned (.tuple #[.int .i32 (wholeL l).1, .bool (wholeL l).2]) ∧ Below w.heap.size w w' := by
  subst hN
  refine whole_list l h1 h4 hb g 0 cap w fun j x hx => ?_
  have := ho.cells (g := g) rfl j (.int .u8 (x : Int)) (by simp [cellsOf8, hx])
  rwa [Addr.add_lit] at this

theorem pad_bytes (l : List Nat) (y n : Nat) (hy : y < 256) (hb : ∀ x ∈ l, x < 256) : ∀ x ∈ pad l y n, x < 256 := by
  intro x hx
  rcases List.mem_append.1 hx with h | h
  · exact hb x h
  · rw [List.eq_of_mem_replicate h]; exact hy

theorem own_below' {w w' : World} {B e size n : Nat} {v : Value} {xs : List Value} (h : w.ownsRow B e size v n xs) (hb : Below w.heap.size w w') : w'.ownsRow B e size v n xs := by
  refine ⟨h.1, ?_⟩
  rcases h.2 with hn | ⟨g, cap, cur, rfl, hB, hg, rest⟩
  · exact .inl hn
  · exact .inr ⟨g, cap, cur, rfl, hB, by rw [hb.block g (Array.getElem?_eq_some_iff.1 hg).1]; exact hg, rest⟩

set_option maxHeartbeats 4000000 in
set_option maxRecDepth 100000 in
theorem begun_list (l : List Nat) (L : Nat) (hL : l.length = L) (h1 : 1 ≤ L) (h4 : L ≤ 3) (hb : ∀ x ∈ l, x < 256) (b off cap : Nat) (w : World) (hbw : b < w.heap.size) (hc : ∀ (j x : Nat), l[j]? = some x → w.cell? ⟨b, off + j, none⟩ = some (.int .u8 (x : Int))) :
    Calls Tryd.prog 23 #[.slice (some ⟨b, off, none⟩) L cap] w fun e w' => e = .returned (.bool (begunL l)) ∧ Below w.heap.size w w' := by
  obtain ⟨i0, hi, hz0, hz1, hz2⟩ := info_parts Tryd.info5
  have HL := Lib.hid hL
  have HB := Lib.hid hb
  have HC := Lib.hid hc
  have SRC := Lib.hid (src_in l b off w hbw hc)
  clear hL hb hc
  go_enter Tryd.func23, Tryd.ntmps23
  go_wp2
  go_loopw [3] (fun i wr => ∃ n : Nat, L < n ∧ n ≤ 5 ∧ i = .int .i64 n ∧ (∀ m, L < m → m < n → okAt l m = false) ∧ Below w.heap.size w wr) (fun i _ => 5 - (RowKit.intOf i).toNat)
  case atStart => exact ⟨L + 1, by omega, by omega, by go_num, fun m a b => by omega, Below.refl _ _⟩
  case round =>
    obtain ⟨n, hn1, hn2, rfl, hno, hbel⟩ := hrel
    have HN := Lib.hid hno
    have HBL := Lib.hid hbel
    have hsz := hbel.size
    clear hno hbel
    by_cases hn : n ≤ 4
    · have hnz : (n : Int) ≤ 4 := by omega
      have hLz : (L : Int) < (n : Int) := by omega
      go_wp2_with (at_builtin; go_loud (refine wpList_append_apart _ rfl (.tmp 17) (.tmp 18) 25 rfl w.heap.size 5 i0 (.int .u8 0) 1 1 Tryd.underlying25 hi hz0 hz1 hz2 rfl (by decide) _ 0 [] rfl (World.ownsRow_made wr #[] 0 (by omega) (by unfold maxLen; omega) rfl) ⟨b, off, none⟩ L cap (cellsOf8 l) rfl (by rw [cellsOf8_length, HL.out]; omega) (SRC.out _ (HBL.out.alloc (by omega) _)) (cellsOf8_one l) (by unfold maxLen; omega) (by omega) (by simp; omega) ?_))
      intro v1 w1 o1 g1 p1
      have O1 := Lib.hid o1
      have B1 := Lib.hid ((HBL.out.alloc (by omega) _).grown g1 (by simp; omega) (by simp [Value.ownBlock]; omega))
      have hs1 : wr.heap.size + 1 ≤ w1.heap.size := by simpa using g1.size
      clear o1 g1 p1
      go_wp2_with (at_builtin; go_loud (refine wpList_append_apart _ rfl (.tmp 20) (.tmp 21) 25 rfl w.heap.size 5 i0 (.int .u8 0) 1 1 Tryd.underlying25 hi hz0 hz1 hz2 rfl (by decide) _ 0 [] rfl (World.ownsRow_made w1 #[] 0 (by omega) (by unfold maxLen; omega) rfl) ⟨b, off, none⟩ L cap (cellsOf8 l) rfl (by rw [cellsOf8_length, HL.out]; omega) (SRC.out _ (B1.out.alloc (by omega) _)) (cellsOf8_one l) (by unfold maxLen; omega) (by omega) (by simp; omega) ?_))
      intro v2 w2 o2 g2 p2
      have hs2 : w1.heap.size + 1 ≤ w2.heap.size := by simpa using g2.size
      have R0 := Lib.hid (rows_start (by omega) O1.out o2 g2 p2)
      have B2 := Lib.hid ((B1.out.alloc (by omega) _).grown g2 (by simp; omega) (by simp [Value.ownBlock]; omega))
      clear o2 g2 p2
      obtain ⟨ga, ca, rfl, _⟩ := own_form O1.out (by omega)
      obtain ⟨gc, cc, rfl, _⟩ := own_form R0.out.2.1 (by omega)
      go_wp2
      go_loopw [4, 5] (fun a c wq => ∃ (m ga ca gc cc : Nat), L ≤ m ∧ m ≤ n ∧ a = .slice (some ⟨ga, 0, none⟩) m ca ∧ c = .slice (some ⟨gc, 0, none⟩) m cc ∧ Rows2 w.heap.size wq (.slice (some ⟨ga, 0, none⟩) m ca) (.slice (some ⟨gc, 0, none⟩) m cc) m (cellsOf8 (pad l 128 m)) (cellsOf8 (pad l 191 m)) ∧ Below w.heap.size w wq)
        (fun a _ _ => n - lenOf a)
      case atStart =>
        refine ⟨L, ga, ca, gc, cc, Nat.le_refl _, by omega, rfl, rfl, ?_, B2.out⟩
        rw [pad_self l 128 L HL.out, pad_self l 191 L HL.out]
        exact R0.out
      case round =>
        obtain ⟨m, ga, ca, gc, cc, hm1, hm2, rfl, rfl, hR, hbl⟩ := hrel
        have HR := Lib.hid hR
        have HQ := Lib.hid hbl
        have hq := hbl.size
        clear hR hbl
        by_cases hm : m < n
        · have hmz : (m : Int) < (n : Int) := by omega
          go_wp2_with (at_builtin; refine wpList_append_apart _ rfl (.tmp 27) (.tmp 28) 25 rfl w.heap.size 5 i0 (.int .u8 0) 1 1 Tryd.underlying25 hi hz0 hz1 hz2 rfl (by decide) _ _ _ rfl (HR.out.1.alloc _) ⟨wr.heap.size, 0, none⟩ 1 1 [.int .u8 128] rfl rfl (new_cells _ _ _) (by intro u hu; simp at hu; subst hu; rfl) (by unfold maxLen; omega) (by omega) (by simp; omega) ?_)
          intro v3 w3 o3 g3 p3
          have hs3 : wr.heap.size + 1 ≤ w3.heap.size := by simpa using g3.size
          have R3 := Lib.hid (rows_low (by omega) HR.out o3 g3 p3)
          have B3 := Lib.hid ((HQ.out.alloc (by omega) _).grown g3 (by simp; omega) (fun k hk => (HR.out.1.lt k hk).1))
          clear o3 g3 p3
          go_wp2_with (at_builtin; refine wpList_append_apart _ rfl (.tmp 30) (.tmp 31) 25 rfl w.heap.size 5 i0 (.int .u8 0) 1 1 Tryd.underlying25 hi hz0 hz1 hz2 rfl (by decide) _ _ _ rfl (R3.out.2.1.alloc _) ⟨w3.heap.size, 0, none⟩ 1 1 [.int .u8 191] rfl rfl (new_cells _ _ _) (by intro u hu; simp at hu; subst hu; rfl) (by unfold maxLen; omega) (by omega) (by simp; omega) ?_)
          intro v4 w4 o4 g4 p4
          have R4 := Lib.hid (rows_high R3.out o4 g4 p4)
          have B4 := Lib.hid ((B3.out.alloc (by omega) _).grown g4 (by simp; omega) (fun k hk => (R3.out.2.1.lt k hk).1))
          clear o4 g4 p4
          obtain ⟨g5, c5, rfl, _⟩ := own_form R4.out.1 (by omega)
          obtain ⟨g6, c6, rfl, _⟩ := own_form R4.out.2.1 (by omega)
          go_wp2
          go_roundw
          case rel =>
            refine ⟨m + 1, g5, c5, g6, c6, by omega, by omega, rfl, rfl, ?_, B4.out⟩
            rw [pad_succ l 128 m (by have := HL.out; omega), pad_succ l 191 m (by have := HL.out; omega)]
            exact R4.out
          case measure => simp [lenOf]; omega
        · have hmn : m = n := by omega
          subst hmn
          have hmz : ¬ (m : Int) < (m : Int) := by omega
          have W1 := Lib.hid (whole_own (pad l 128 m) (pad_length l 128 m (by have := HL.out; omega)) (by omega) (by omega) (pad_bytes l 128 m (by omega) HB.out) ga ca HR.out.1)
          go_wp2_with fail
          refine W1.out.mono ?_
          rintro e w5 ⟨rfl, b5⟩
          have B5 := Lib.hid b5
          have hs5 := b5.size
          clear b5
          have W2 := Lib.hid (whole_own (pad l 191 m) (pad_length l 191 m (by have := HL.out; omega)) (by omega) (by omega) (pad_bytes l 191 m (by omega) HB.out) gc cc (own_below' HR.out.2.1 B5.out))
          go_wp2_with fail
          refine W2.out.mono ?_
          rintro e w6 ⟨rfl, b6⟩
          have B6 := Lib.hid (HQ.out.trans ((B5.out.mono (by omega)).trans (b6.mono (by omega))))
          clear b6
          cases k1 : (wholeL (pad l 128 m)).2
          · cases k2 : (wholeL (pad l 191 m)).2
            · have HK := Lib.hid (show okAt l m = false by simp [okAt, k1, k2])
              go_wp2
              go_roundw
              case rel =>
                refine ⟨m + 1, by omega, by omega, by go_num, ?_, B6.out⟩
                intro q q1 q2
                by_cases hq : q = m
                · rw [hq]; exact HK.out
                · exact HN.out q q1 (by omega)
              case measure => simp [RowKit.intOf]; omega
            · have HK := Lib.hid (show okAt l m = true by simp [okAt, k2])
              go_wp2
              go_ret
              exact ⟨ret_bool (begunL_true l m (by have := HL.out; omega) (by omega) (by omega) HK.out).symm, B6.out⟩
          · have HK := Lib.hid (show okAt l m = true by simp [okAt, k1])
            go_wp2
            go_ret
            exact ⟨ret_bool (begunL_true l m (by have := HL.out; omega) (by omega) (by omega) HK.out).symm, B6.out⟩
    · have hnz : ¬ (n : Int) ≤ 4 := by omega
      go_wp2
      go_ret
      exact ⟨ret_bool (begunL_false l fun q q1 q2 => HN.out q (by have := HL.out; omega) (by omega)).symm, HBL.out⟩
end Go.Proofs.YtcpfillmdkhjlaaDoor
