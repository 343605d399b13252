/- The contract of numbers: the numbers that bytes consist of. Conditions: at most twelve bytes, which lie in memory; two variables of the library's hold something. -/
import Derived.Test.YtlmfhdkpgpjbnaaDoorWalkM
import Derived.Shelf.Strconv.Atoi
import Derived.Laws.BytesArg
import Derived.Laws.BytesString
import Derived.Laws.AppendOwn
namespace Go.Proofs.YtlmfhdkpgpjbnaaDoor
open Go Go.RowKit Go.Lib

theorem Tryd.info3 : (Tryd.prog.info? 3).map (fun i => (i.zero, i.size, i.bytes)) = some (some (.int .i64 0), 1, 8) := by kernel_rfl
theorem info_cut {t : TypeId} {z : Value} {s b : Nat} (h : (Tryd.prog.info? t).map (fun i => (i.zero, i.size, i.bytes)) = some (some z, s, b)) : ∃ i, Tryd.prog.info? t = some i ∧ i.zero = some z ∧ i.size = s ∧ i.bytes = b := by
  cases hi : Tryd.prog.info? t with
  | none => rw [hi] at h; cases h
  | some i =>
    rw [hi] at h
    simp only [Option.map_some, Option.some.injEq, Prod.mk.injEq] at h
    exact ⟨i, rfl, h.1, h.2.1, h.2.2⟩

/-- What the world holds: the library's variables. -/
structure Wd (w : World) : Prop where
  tabs : Lib.Utf8Tabs 0 1 w
  max : ∃ m, w.cell? ⟨2, 0, none⟩ = some (.int .i64 m)
  err : ∃ te pe, w.cell? ⟨3, 0, none⟩ = some (.iface te pe)
theorem Wd.lt {w : World} (h : Wd w) : 3 < w.heap.size := by
  obtain ⟨te, pe, hc⟩ := h.err
  exact block_lt_of_cell hc
theorem Wd.of {w w' : World} (h : Wd w) (hb : ∀ k, k < 4 → w'.heap[k]? = w.heap[k]?) : Wd w' := by
  refine ⟨⟨fun c hc => ?_, fun i hi => ⟨?_, ?_⟩⟩, ?_, ?_⟩
  · exact (World.cell?_of_block (w := w) (hb 0 (by omega))).trans (h.tabs.1 c hc)
  · exact (World.cell?_of_block (w := w) (hb 1 (by omega))).trans (h.tabs.2 i hi).1
  · exact (World.cell?_of_block (w := w) (hb 1 (by omega))).trans (h.tabs.2 i hi).2
  · obtain ⟨m, hm⟩ := h.max
    exact ⟨m, (World.cell?_of_block (w := w) (hb 2 (by omega))).trans hm⟩
  · obtain ⟨te, pe, hm⟩ := h.err
    exact ⟨te, pe, (World.cell?_of_block (w := w) (hb 3 (by omega))).trans hm⟩
theorem Wd.below {w w' : World} (h : Wd w) (hb : Below w.heap.size w w') : Wd w' :=
  h.of fun k hk => hb.block k (by have := h.lt; omega)

/-- Bytes as numbers. -/
def numsOf (l : List UInt8) : List Int := l.map fun x => (x.toNat : Int)
theorem numsOf_len (l : List UInt8) : (numsOf l).length = l.length := by simp [numsOf]
theorem bytesOf_nums (l : List UInt8) : Lib.bytesOf (numsOf l) = l := by
  unfold Lib.bytesOf numsOf
  rw [List.map_map]
  conv => rhs; rw [← List.map_id l]
  apply List.map_congr_left
  intro x _
  simp
theorem numsOf_getD (l : List UInt8) (i : Nat) (h : i < l.length) : (numsOf l).getD i 0 = (bAt l i : Int) := by
  unfold numsOf bAt
  rw [List.getD_eq_getElem?_getD, List.getD_eq_getElem?_getD, List.getElem?_map, List.getElem?_eq_getElem h]
  rfl
theorem numsOf_byte (l : List UInt8) : ∀ x ∈ numsOf l, 0 ≤ x ∧ x < 256 := by
  intro x hx
  unfold numsOf at hx
  rw [List.mem_map] at hx
  obtain ⟨y, _, rfl⟩ := hx
  have := y.toNat_lt
  omega

/-- string(b), of bytes that lie in memory. -/
theorem conv_bytes {l : List UInt8} {a : Option Addr} {w : World} (h : BytesIn l a w) (cap : Nat) : (convert 22 9 (.slice a l.length cap)).run Tryd.prog w = .ok (.string ⟨l.toArray⟩) w := by
  by_cases h0 : l.length = 0
  · have e : l = [] := List.eq_nil_of_length_eq_zero h0
    subst e
    rw [List.length_nil, run_convert_bytes_string w 22 9 5 a 0 cap Tryd.underlying22 Tryd.underlying5 Tryd.underlying9]
    cases a <;> simp [Conv.bytesToString, loadCells]
    all_goals rfl
  · rcases h with h' | ⟨b, off, rfl, hlt, hc⟩
    · exact absurd h' h0
    · have := run_convert_bytes_arg (P := Tryd.prog) w 22 5 Tryd.underlying22 Tryd.underlying5 b off l.length cap (numsOf l) (numsOf_len l) (fun i hi => by
        rw [hc i hi, numsOf_getD l i hi]) 9 Tryd.underlying9
      have e : strOfNums (numsOf l) = ⟨l.toArray⟩ := by
        have h2 : (strOfNums (numsOf l)).data = l.toArray := by
          show ((numsOf l).map fun n => UInt8.ofNat n.toNat).toArray = l.toArray
          exact congrArg List.toArray (bytesOf_nums l)
        exact congrArg ByteArray.mk h2
      rw [e] at this
      exact this

/-- strconv.Atoi, at this program. -/
theorem atoiOk (d : List UInt8) (n : Int) (hl : d.length ≤ 18) (h : Lib.atoi d = some n) (w : World) :
    Calls Tryd.prog 24 #[.string ⟨d.toArray⟩] w fun e w' => e = .returned (.tuple #[.int .i64 n, .nilIface]) ∧ Below w.heap.size w w' :=
  (Any.strconv_Atoi { Tryd.lays172 with } ⟨d.toArray⟩ n hl h w).mono fun e w' ⟨he, t, hw⟩ => ⟨he, by subst hw; exact Lib.bytesWorld_below _ _ _⟩
theorem atoiErr (d : List UInt8) (hl : d.length ≤ 18) (h : Lib.atoi d = none) (w : World) (hw : Wd w) :
    Calls Tryd.prog 24 #[.string ⟨d.toArray⟩] w fun e w' => (∃ N, e = .returned (.tuple #[.int .i64 0, .iface 66 (.pointer (some ⟨N, 0, none⟩))])) ∧ Below w.heap.size w w' := by
  obtain ⟨te, pe, hv⟩ := hw.err
  exact (Any.strconv_Atoi_err Tryd.lays172 ⟨d.toArray⟩ hl h (.iface te pe) w hv (.inr ⟨te, pe, rfl⟩)).mono fun e w' ⟨N, he, _, _, hb⟩ => ⟨⟨N, he⟩, hb⟩

/-- The pieces of bytes at the semicolons: where each lies. -/
def Pieces (l : List UInt8) (vs : List Value) (w : World) : Prop :=
  vs.length = (split l [59]).length ∧ ∀ (j : Nat) (d : List UInt8), (split l [59])[j]? = some d → ∃ (a' : Option Addr) (cap : Nat), vs[j]? = some (Value.slice a' d.length cap) ∧ d.length ≤ l.length ∧ BytesIn d a' w

theorem split_len (l : List UInt8) : (split l [59]).length = count l [59] + 1 := by
  have h := Lib.splitB_all ⟨#[59]⟩ (by decide) 0 _ ⟨l.toArray⟩ rfl
  have d := congrArg List.length (Lib.splitB_data ⟨#[59]⟩ 0 (Lib.countB ⟨l.toArray⟩ ⟨#[59]⟩) ⟨l.toArray⟩)
  rw [List.length_map, h] at d
  exact d.symm

theorem splitAt (l : List UInt8) (b off cap sb : Nat) (w : World) (hs : l.length ≤ 12) (hcap : l.length ≤ cap) (hc63 : cap ≤ 9223372036854775807) (hw : Wd w) (hb : b < w.heap.size)
    (hc : ∀ j, j < l.length → w.cell? ⟨b, off + j, none⟩ = some (.int .u8 (bAt l j))) (h59 : w.cell? ⟨sb, 0, none⟩ = some (.int .u8 59)) :
    Calls Tryd.prog 23 #[.slice (some ⟨b, off, none⟩) l.length cap, .slice (some ⟨sb, 0, none⟩) 1 1] w fun e w' => ∃ vs, e = .returned (.slice (some ⟨w.heap.size, 0, none⟩) vs.length vs.length) ∧ Pieces l vs w' ∧ (∀ (j : Nat) (u : Value), vs[j]? = some u → w'.cell? ⟨w.heap.size, j, none⟩ = some u) ∧ Below w.heap.size w w' := by
  obtain ⟨m, hm⟩ := hw.max
  refine (Any.bytes_Split Tryd.splitL ⟨b, off, none⟩ ⟨sb, 0, none⟩ l.length cap 1 1 (numsOf l) [59] m w (numsOf_len l) rfl (numsOf_byte l) (by intro y hy; simp at hy; omega) (fun i hi => ?_) (fun i hi => ?_) hcap (by omega) (by omega) hc63 (by omega) hm).mono ?_
  · rw [Addr.add_lit, numsOf_getD l i hi]
    exact hc i hi
  · obtain rfl : i = 0 := by omega
    exact h59
  · rintro e w' ⟨he, q, rfl⟩
    rw [bytesOf_nums] at he ⊢
    have e59 : Lib.bytesOf [59] = [59] := rfl
    rw [e59] at he ⊢
    have hlen : (splitV [59] 0 (count l [59]) ⟨b, off, none⟩ cap l).length = (split l [59]).length := splitV_length _ _ _ _ _ _
    refine ⟨splitV [59] 0 (count l [59]) ⟨b, off, none⟩ cap l, ?_, ⟨hlen, ?_⟩, ?_, ?_⟩
    · rw [he, hlen, split_len]
    · intro j d hj
      obtain ⟨v, hv⟩ : ∃ v, (splitV [59] 0 (count l [59]) ⟨b, off, none⟩ cap l)[j]? = some v := by
        have h := (List.getElem?_eq_some_iff.1 hj).1
        exact ⟨_, List.getElem?_eq_getElem (by rw [hlen]; exact h)⟩
      obtain ⟨a', o', len, cp, rfl, h2, h3, h4, h5⟩ := splitV_spec [59] 0 (by simp) (by simp) (count l [59]) ⟨b, off, none⟩ cap l hcap j v hv
      have hd : d = (l.drop o').take len := by
        have h6 := hj
        unfold split at h6
        rw [h4] at h6
        exact (Option.some.inj h6).symm
      have hdl : d.length = len := by rw [hd, List.length_take, List.length_drop]; omega
      refine ⟨some a', cp, by rw [hv, hdl], by omega, ?_⟩
      by_cases h0 : len = 0
      · exact .inl (by omega)
      · have e0 := h5 0 (by omega)
        rw [Nat.add_zero, Addr.add_lit] at e0
        have ea : a' = ⟨b, off + o', none⟩ := by rw [← e0]; simp [Addr.add]
        refine .inr ⟨b, off + o', by rw [ea], ?_, fun i hi => ?_⟩
        · simp; omega
        · have hk : bAt d i = bAt l (o' + i) := by
            unfold bAt
            rw [hd, List.getD_eq_getElem?_getD, List.getD_eq_getElem?_getD, List.getElem?_take, if_pos (by omega), List.getElem?_drop]
          rw [hk, Nat.add_assoc]
          have hbel : Below w.heap.size w ((w.alloc (Obj.cells (splitV [59] 0 (count l [59]) ⟨b, off, none⟩ cap l).toArray (Tryd.splitL_ren.t 22))).drewN q) := below_drewN ((Below.refl _ _).alloc (Nat.le_refl _) _) _
          exact (hbel.cell (by exact hb)).trans (hc (o' + i) (by omega))
    · intro j u hu
      rw [World.cell?_drewN, World.cell?_alloc_new]
      simpa using hu
    · exact below_drewN ((Below.refl _ _).alloc (Nat.le_refl _) _) _

/-- What numbers answers. -/
def NumsGot (l : List UInt8) (w : World) (e : Ending) (w' : World) : Prop :=
  Below w.heap.size w w' ∧ ((numsP l = none ∧ e = .returned (.tuple #[.slice none 0 0, .bool false])) ∨ ∃ ns a cap, numsP l = some ns ∧ e = .returned (.tuple #[.slice a ns.length cap, .bool true]) ∧ IntsIn ns a w')

theorem split_le (l : List UInt8) : (split l [59]).length ≤ l.length + 1 := by
  have h := Lib.countB_le ⟨#[59]⟩ (by decide) l.length ⟨l.toArray⟩ (by simp [ByteArray.size])
  have e : (⟨l.toArray⟩ : ByteArray).size = l.length := by simp [ByteArray.size]
  rw [e] at h
  rw [split_len]
  exact Nat.succ_le_succ h
theorem new_cells (w : World) (cs : List Value) (e : TypeId) : ∀ j u, cs[j]? = some u → (w.alloc (.cells cs.toArray e)).cell? ((⟨w.heap.size, 0, none⟩ : Addr).add j) = some u := by
  intro j u hj
  rw [Addr.add_lit, Nat.zero_add, World.cell?_alloc_new]
  simpa using hj
theorem own_below' {w w' : World} {B e size n : Nat} {v : Value} {xs : List Value} (h : w.ownsRow B e size v n xs) (hb : Below w.heap.size w w') : w'.ownsRow B e size v n xs := by
  refine ⟨h.1, ?_⟩
  rcases h.2 with hn | ⟨g, cap, cur, rfl, hB, hg, rest⟩
  · exact .inl hn
  · exact .inr ⟨g, cap, cur, rfl, hB, by rw [hb.block g (Array.getElem?_eq_some_iff.1 hg).1]; exact hg, rest⟩
theorem own_ints {w : World} {B n : Nat} {v : Value} {acc : List Int} (h : w.ownsRow B 3 1 v n (acc.map (Value.int .i64))) : ∃ a cap, v = .slice a acc.length cap ∧ IntsIn acc a w := by
  have hl : acc.length = n := by have := h.1; simpa using this
  have h2 := h.2
  rcases h2 with ⟨rfl, h0⟩ | ⟨g, cap, cur, rfl, _, hh, _⟩
  · exact ⟨none, 0, by rw [hl, h0], .inl (by omega)⟩
  · refine ⟨some ⟨g, 0, none⟩, cap, by rw [hl], .inr ⟨g, 0, rfl, (Array.getElem?_eq_some_iff.1 hh).1, fun j hj => ?_⟩⟩
    have := h.cellAt j (by omega)
    rw [Nat.zero_add, this, List.getElem?_map, List.getElem?_eq_getElem hj, List.getD_eq_getElem?_getD, List.getElem?_eq_getElem hj]
    rfl

set_option maxHeartbeats 4000000 in
set_option maxRecDepth 100000 in
theorem numbersAt (l : List UInt8) (a : Option Addr) (cap : Nat) (w : World) (hs : l.length ≤ 12) (hcap : l.length ≤ cap) (hc63 : cap ≤ 9223372036854775807) (hw : Wd w) (h : BytesIn l a w) :
    Calls Tryd.prog 19 #[.slice a l.length cap] w (NumsGot l w) := by
  by_cases h0 : l.length = 0
  · have e : numsP l = some [] := by unfold numsP; rw [if_pos h0]
    have H := Lib.hid e
    clear e h
    rw [h0] at hcap ⊢
    go_enter Tryd.func19, Tryd.ntmps19
    go_wp2
    go_ret2
    exact ⟨Below.refl _ _, .inr ⟨[], none, 0, H.out, rfl, .inl rfl⟩⟩
  · have h0' : ((l.length : Int) == 0) = false := beq_eq_false_iff_ne.2 (by omega)
    rcases h with h | ⟨b, off, rfl, hb, hc⟩
    · exact absurd h h0
    have W1 := Lib.hid (show Below w.heap.size w (w.alloc (Obj.cells #[.int .u8 59] 5)) from (Below.refl _ _).alloc (Nat.le_refl _) _)
    have SP := Lib.hid (splitAt l b off cap w.heap.size (w.alloc (Obj.cells #[.int .u8 59] 5)) hs hcap hc63 (hw.below W1.out) (by simp; omega) (fun j hj => (W1.out.cell (by exact hb)).trans (hc j hj)) (by go_simp))
    obtain ⟨i0, hi, hz0, hz1, hz2⟩ := info_cut Tryd.info3
    have HW := Lib.hid hw
    have HN := Lib.hid (show numsP l = numsL (split l [59]) by unfold numsP; rw [if_neg h0])
    clear hw hc
    go_enter Tryd.func19, Tryd.ntmps19
    go_wp2_with fail
    (with_reducible refine SP.out.mono ?_)
    rintro e w2 ⟨vs, rfl, hP, hC, hB⟩
    have B2 := Lib.hid (W1.out.trans (hB.mono (by simp)))
    have HP := Lib.hid hP
    have HC := Lib.hid hC
    have hvs : vs.length ≤ 13 := by
      have h1 := hP.1
      have h2 := split_le l
      omega
    clear hP hC hB SP W1
    go_wp2
    go_loopw [4, 6, 7, 8, 16] (fun v4 _ _ _ i wr => ∃ k acc, i = .int .i64 (k : Nat) ∧ k ≤ vs.length ∧ numsL ((split l [59]).take k) = some acc ∧ wr.ownsRow w2.heap.size 3 1 v4 k (acc.map (Value.int .i64)) ∧ Below w2.heap.size w2 wr) (fun _ _ _ _ i _ => vs.length - (RowKit.intOf i).toNat)
    case atStart => exact ⟨0, [], rfl, Nat.zero_le _, rfl, World.ownsRow_nil _ _ _ _, Below.refl _ _⟩
    case round =>
      obtain ⟨k, acc, rfl, hk, hacc, hown, hbel⟩ := hrel
      by_cases hlt : k < vs.length
      · have hlt' : (k : Int) < (vs.length : Int) := by omega
        have hkl : k < (split l [59]).length := by rw [← HP.out.1]; exact hlt
        obtain ⟨d, hj⟩ : ∃ d, (split l [59])[k]? = some d := ⟨_, List.getElem?_eq_getElem hkl⟩
        obtain ⟨a', cp, hv, hdl, hin⟩ := HP.out.2 k d hj
        have ck0 : w2.cell? ⟨w.heap.size + 1, k, none⟩ = some (.slice a' d.length cp) := by have := HC.out k _ hv; simpa using this
        have ck := (hbel.cell (p := ⟨w.heap.size + 1, k, none⟩) (block_lt_of_cell ck0)).trans ck0
        clear ck0
        have cv := conv_bytes (hin.below hbel) cp
        have HO := Lib.hid hown
        have HB := Lib.hid hbel
        have HA := Lib.hid hacc
        have WR := Lib.hid ((HW.out.below B2.out).below hbel)
        have HJ := Lib.hid hj
        have HD := Lib.hid hdl
        have BR := Lib.hid (B2.out.trans (hbel.mono B2.out.size))
        have HT := Lib.hid (show (split l [59]).take (k + 1) = (split l [59]).take k ++ [d] by rw [List.take_add_one, hj]; rfl)
        have HS := Lib.hid (show (split l [59]) = (split l [59]).take (k + 1) ++ (split l [59]).drop (k + 1) from (List.take_append_drop _ _).symm)
        have HF := Lib.hid (show digP d = none → numsP l = none by
          intro hx
          rw [HN.out, HS.out]
          refine numsL_bad _ _ ?_
          rw [HT.out, numsL_snoc _ _ _ HA.out, hx]
          rfl)
        clear hown hbel hacc hj hv hin hkl hdl
        cases ha : Lib.atoi d with
        | none =>
          have AT := Lib.hid (atoiErr d (by have := HD.out; omega) ha wr WR.out)
          have HG := Lib.hid (HF.out (by unfold digP; split; (· exact ha); (· rfl)))
          clear ha
          go_wp2_with (go_at_call 24; (with_reducible refine AT.out.mono ?_); rintro e w4 ⟨⟨N, rfl⟩, hb4⟩; have B4 := Lib.hid hb4; clear hb4)
          go_ret2
          exact ⟨BR.out.trans (B4.out.mono BR.out.size), .inl ⟨HG.out, rfl⟩⟩
        | some n =>
          have AT := Lib.hid (atoiOk d n (by have := HD.out; omega) ha wr)
          have H3 := Lib.hid (show d.length ≤ 3 → digP d = some n by intro h3; unfold digP; rw [if_pos h3, ha])
          have H4 := Lib.hid (show ¬ d.length ≤ 3 → digP d = none by intro h3; unfold digP; rw [if_neg h3])
          clear ha
          by_cases h3 : d.length ≤ 3
          · have h3' : ¬ (3 : Int) < (d.length : Int) := by omega
            have HG := Lib.hid (H3.out h3)
            clear h3
            have S2 := HB.out.size
            go_wp2_with (first
              | (go_at_call 24; (with_reducible refine AT.out.mono ?_); rintro e w4 ⟨rfl, hb4⟩; have B4 := Lib.hid hb4; have O4 := Lib.hid (own_below' HO.out hb4); have S4 := hb4.size; clear hb4 HO)
              | (at_builtin; refine wpList_append_own _ rfl _ _ 45 rfl w2.heap.size 3 i0 (.int .i64 0) 1 8 Tryd.underlying45 hi hz0 hz1 hz2 rfl (by decide) _ _ _ rfl (O4.out.alloc _) ⟨w4.heap.size, 0, none⟩ 1 1 [.int .i64 n] rfl rfl (new_cells _ _ _) (by intro u hu; simp at hu; subst hu; rfl) (by unfold maxLen; omega) (by omega) (by simp; omega) ?_))
            intro v5 w5 own5 gr5 _
            have O5 := Lib.hid own5
            have B5 := Lib.hid (((HB.out.trans (B4.out.mono S2)).alloc (by omega) _).grown gr5 (by simp; omega) (fun j hj => (O4.out.lt j hj).1))
            clear own5 gr5
            go_wp2
            go_roundw
            case rel => exact ⟨k + 1, acc ++ [n], by go_num, by omega, by rw [HT.out, numsL_snoc _ _ _ HA.out, HG.out]; rfl, by rw [List.map_append]; exact O5.out, B5.out⟩
            case measure => (simp [RowKit.intOf]; try omega)
          · have h3' : (3 : Int) < (d.length : Int) := by omega
            have HG := Lib.hid (HF.out (H4.out h3))
            clear h3
            go_wp2_with (go_at_call 24; (with_reducible refine AT.out.mono ?_); rintro e w4 ⟨rfl, hb4⟩; have B4 := Lib.hid hb4; clear hb4)
            go_ret2
            exact ⟨BR.out.trans (B4.out.mono BR.out.size), .inl ⟨HG.out, rfl⟩⟩
      · obtain rfl : k = vs.length := by omega
        have HO := Lib.hid hown
        have BR := Lib.hid (B2.out.trans (hbel.mono B2.out.size))
        have HA := Lib.hid (show numsP l = some acc by rw [HN.out, ← hacc, List.take_of_length_le (by rw [HP.out.1]; exact Nat.le_refl _)])
        clear hown hbel hacc hlt hk
        obtain ⟨a4, c4, rfl, hin⟩ := own_ints HO.out
        have HI := Lib.hid hin
        clear hin HO
        go_wp2
        go_ret2
        exact ⟨BR.out, .inr ⟨acc, a4, c4, HA.out, rfl, HI.out⟩⟩
end Go.Proofs.YtlmfhdkpgpjbnaaDoor
