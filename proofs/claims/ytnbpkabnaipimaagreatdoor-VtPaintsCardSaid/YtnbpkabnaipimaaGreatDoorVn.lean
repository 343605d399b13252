/- The contracts of number and numbers, of bytes that are pieces of at most three digits each. Conditions: at most twelve bytes, which lie in memory; the listed variables hold something. -/
import Derived.Test.YtnbpkabnaipimaaGreatDoorVw
import Derived.Test.YtnbpkabnaipimaaGreatDoorRuneU
import Derived.Test.YtnbpkabnaipimaaGreatDoorVd
import Derived.Laws.BytesArg
import Derived.Laws.BytesString
import Derived.Laws.AppendOwn
import Derived.BigQuiet
namespace Go.Proofs.YtnbpkabnaipimaaGreatDoor
open Go Go.RowKit Go.Lib

theorem Tryz.info3 : (Tryz.prog.info? 3).map (fun i => (i.zero, i.size, i.bytes)) = some (some (.int .i64 0), 1, 8) := by kernel_rfl
/-- Bytes as numbers. -/
def numsOf (l : List UInt8) : List Int := l.map fun x => (x.toNat : Int)
theorem numsOf_len (l : List UInt8) : (numsOf l).length = l.length := by simp [numsOf]
theorem bytesOf_nums (l : List UInt8) : Lib.bytesOf (numsOf l) = l := by
  unfold Lib.bytesOf numsOf
  rw [List.map_map]
  conv => rhs; rw [← List.map_id l]
  apply List.map_congr_left
  intro x _
  simp
theorem numsOf_getD (l : List UInt8) (i : Nat) (h : i < l.length) : (numsOf l).getD i 0 = (bAt l i : Int) := by
  unfold numsOf bAt
  rw [List.getD_eq_getElem?_getD, List.getD_eq_getElem?_getD, List.getElem?_map, List.getElem?_eq_getElem h]
  rfl
theorem numsOf_byte (l : List UInt8) : ∀ x ∈ numsOf l, 0 ≤ x ∧ x < 256 := by
  intro x hx
  unfold numsOf at hx
  rw [List.mem_map] at hx
  obtain ⟨y, _, rfl⟩ := hx
  have := y.toNat_lt
  omega
theorem bAt_drop (l : List UInt8) (o i : Nat) : bAt (l.drop o) i = bAt l (o + i) := by
  unfold bAt
  rw [List.getD_eq_getElem?_getD, List.getD_eq_getElem?_getD, List.getElem?_drop]

/-- string(b), of bytes that lie in memory. -/
theorem conv_bytes {l : List UInt8} {a : Option Addr} {w : World} (h : BytesIn l a w) (cap : Nat) : (convert 26 9 (.slice a l.length cap)).run Tryz.prog w = .ok (.string ⟨l.toArray⟩) w := by
  by_cases h0 : l.length = 0
  · have e : l = [] := List.eq_nil_of_length_eq_zero h0
    subst e
    rw [List.length_nil, run_convert_bytes_string w 26 9 5 a 0 cap Tryz.underlying26 Tryz.underlying5 Tryz.underlying9]
    cases a <;> simp [Conv.bytesToString, loadCells]
    all_goals rfl
  · rcases h with h' | ⟨b, off, rfl, hlt, hc⟩
    · exact absurd h' h0
    · have := run_convert_bytes_arg (P := Tryz.prog) w 26 5 Tryz.underlying26 Tryz.underlying5 b off l.length cap (numsOf l) (numsOf_len l) (fun i hi => by
        rw [hc i hi, numsOf_getD l i hi]) 9 Tryz.underlying9
      have e : strOfNums (numsOf l) = ⟨l.toArray⟩ := by
        have h2 : (strOfNums (numsOf l)).data = l.toArray := by
          show ((numsOf l).map fun n => UInt8.ofNat n.toNat).toArray = l.toArray
          exact congrArg List.toArray (bytesOf_nums l)
        exact congrArg ByteArray.mk h2
      rw [e] at this
      exact this

theorem below_drewN' {B : Nat} {a w : World} (h : Below B a w) (n : Nat) : Below B a (w.drewN n) := h.trans ⟨rfl, rfl, rfl, Nat.le_refl _, fun _ _ => rfl⟩
theorem atoiOk (d : List UInt8) (n : Int) (hl : d.length ≤ 18) (h : Lib.atoi d = some n) (w : World) :
    Calls Tryz.prog 78 #[.string ⟨d.toArray⟩] w fun e w' => e = .returned (.tuple #[.int .i64 n, .nilIface]) ∧ Below w.heap.size w w' :=
  (Any.strconv_Atoi { Tryz.lays172 with } ⟨d.toArray⟩ n hl h w).mono fun e w' ⟨he, t, hw⟩ => ⟨he, by subst hw; exact Lib.bytesWorld_below _ _ _⟩

/-- Digits, few of them. -/
def Digs (d : List UInt8) : Prop := d.length ≤ 3 ∧ ∀ j, j < d.length → 48 ≤ bAt d j ∧ bAt d j ≤ 57

set_option maxHeartbeats 2000000 in
set_option maxRecDepth 100000 in
theorem numberAt (d : List UInt8) (n : Int) (a : Option Addr) (cap : Nat) (w : World) (hd : Digs d) (ha : Lib.atoi d = some n) (h : BytesIn d a w) :
    Calls Tryz.prog 74 #[.slice a d.length cap] w fun e w' => e = .returned (.tuple #[.int .i64 n, .bool true]) ∧ Below w.heap.size w w' := by
  have h0 : d.length ≠ 0 := by
    intro h0
    have : d = [] := List.eq_nil_of_length_eq_zero h0
    subst this
    rw [show Lib.atoi [] = none from by decide] at ha
    cases ha
  rcases h with h | ⟨b, off, rfl, hb, hc⟩
  · exact absurd h h0
  have AT := Lib.hid (atoiOk d n (by have := hd.1; omega) ha w)
  have cv := conv_bytes (l := d) (a := some ⟨b, off, none⟩) (w := w) (.inr ⟨b, off, rfl, hb, hc⟩) cap
  have h3 : ¬ (3 : Int) < (d.length : Int) := by have := hd.1; omega
  have HD := Lib.hid hd
  have HC := Lib.hid hc
  clear hd ha hc h0
  go_enter Tryz.func74, Tryz.ntmps74
  go_wp2
  go_loopw [10] (fun i wr => ∃ k : Nat, k ≤ d.length ∧ i = .int .i64 k ∧ wr = w) (fun i _ => d.length - (RowKit.intOf i).toNat)
  case atStart => exact ⟨0, Nat.zero_le _, rfl, rfl⟩
  case round =>
    obtain ⟨k, hk, rfl, hwr⟩ := hrel
    have hwr' := hwr.symm
    clear hwr
    subst hwr'
    by_cases hlt : k < d.length
    · have c0 := HC.out k hlt
      obtain ⟨g1, g2⟩ := HD.out.2 k hlt
      obtain ⟨z, hz⟩ : ∃ z, z = bAt d k := ⟨_, rfl⟩
      rw [← hz] at c0 g1 g2
      have g1' : ¬ (z : Int) < 48 := by omega
      have g2' : ¬ (57 : Int) < (z : Int) := by omega
      have hki : (k : Int) < (d.length : Int) := by omega
      have hk0 : (0 : Int) ≤ (k : Int) := by omega
      clear hz
      go_wp2
      go_roundw
      case rel => exact ⟨k + 1, by omega, by go_num, by first | rfl | trivial⟩
      case measure => (simp [RowKit.intOf]; try omega)
    · obtain rfl : k = d.length := by omega
      go_wp2_with (go_at_call 78; (with_reducible refine AT.out.mono ?_); rintro e w4 ⟨rfl, hb4⟩; have B4 := Lib.hid hb4; clear hb4)
      go_quiet (fail)
      go_wp2
      go_ret2
      exact ⟨rfl, below_drewN' B4.out _⟩

/-- The pieces of bytes at the semicolons: where each lies. -/
def Pieces (l : List UInt8) (vs : List Value) (w : World) : Prop :=
  vs.length = (split l [59]).length ∧ ∀ (j : Nat) (d : List UInt8), (split l [59])[j]? = some d → ∃ (a' : Option Addr) (cap : Nat), vs[j]? = some (Value.slice a' d.length cap) ∧ d.length ≤ l.length ∧ BytesIn d a' w

theorem split_len (l : List UInt8) : (split l [59]).length = count l [59] + 1 := by
  have h := Lib.splitB_all ⟨#[59]⟩ (by decide) 0 _ ⟨l.toArray⟩ rfl
  have d := congrArg List.length (Lib.splitB_data ⟨#[59]⟩ 0 (Lib.countB ⟨l.toArray⟩ ⟨#[59]⟩) ⟨l.toArray⟩)
  rw [List.length_map, h] at d
  exact d.symm

theorem splitAt (l : List UInt8) (b off cap sb : Nat) (w : World) (hs : l.length ≤ 12) (hcap : l.length ≤ cap) (hc63 : cap ≤ 9223372036854775807) (hw : Wd w) (hb : b < w.heap.size)
    (hc : ∀ j, j < l.length → w.cell? ⟨b, off + j, none⟩ = some (.int .u8 (bAt l j))) (h59 : w.cell? ⟨sb, 0, none⟩ = some (.int .u8 59)) :
    Calls Tryz.prog 73 #[.slice (some ⟨b, off, none⟩) l.length cap, .slice (some ⟨sb, 0, none⟩) 1 1] w fun e w' => ∃ vs, e = .returned (.slice (some ⟨w.heap.size, 0, none⟩) vs.length vs.length) ∧ Pieces l vs w' ∧ (∀ (j : Nat) (u : Value), vs[j]? = some u → w'.cell? ⟨w.heap.size, j, none⟩ = some u) ∧ Below w.heap.size w w' := by
  obtain ⟨m, hm⟩ := hw.max
  refine (Any.bytes_Split Tryz.splitL ⟨b, off, none⟩ ⟨sb, 0, none⟩ l.length cap 1 1 (numsOf l) [59] m w (numsOf_len l) rfl (numsOf_byte l) (by intro y hy; simp at hy; omega) (fun i hi => ?_) (fun i hi => ?_) hcap (by omega) (by omega) hc63 (by omega) hm).mono ?_
  · rw [Addr.add_lit, numsOf_getD l i hi]
    exact hc i hi
  · obtain rfl : i = 0 := by omega
    exact h59
  · rintro e w' ⟨he, q, rfl⟩
    rw [bytesOf_nums] at he ⊢
    have e59 : Lib.bytesOf [59] = [59] := rfl
    rw [e59] at he ⊢
    have hlen : (splitV [59] 0 (count l [59]) ⟨b, off, none⟩ cap l).length = (split l [59]).length := splitV_length _ _ _ _ _ _
    refine ⟨splitV [59] 0 (count l [59]) ⟨b, off, none⟩ cap l, ?_, ⟨hlen, ?_⟩, ?_, ?_⟩
    · rw [he, hlen, split_len]
    · intro j d hj
      obtain ⟨v, hv⟩ : ∃ v, (splitV [59] 0 (count l [59]) ⟨b, off, none⟩ cap l)[j]? = some v := by
        have h := (List.getElem?_eq_some_iff.1 hj).1
        exact ⟨_, List.getElem?_eq_getElem (by rw [hlen]; exact h)⟩
      obtain ⟨a', o', len, cp, rfl, h2, h3, h4, h5⟩ := splitV_spec [59] 0 (by simp) (by simp) (count l [59]) ⟨b, off, none⟩ cap l hcap j v hv
      have hd : d = (l.drop o').take len := by
        have h6 := hj
        unfold split at h6
        rw [h4] at h6
        exact (Option.some.inj h6).symm
      have hdl : d.length = len := by rw [hd, List.length_take, List.length_drop]; omega
      refine ⟨some a', cp, by rw [hv, hdl], by omega, ?_⟩
      by_cases h0 : len = 0
      · exact .inl (by omega)
      · have e0 := h5 0 (by omega)
        rw [Nat.add_zero, Addr.add_lit] at e0
        have ea : a' = ⟨b, off + o', none⟩ := by rw [← e0]; simp [Addr.add]
        refine .inr ⟨b, off + o', by rw [ea], ?_, fun i hi => ?_⟩
        · simp; omega
        · have hk : bAt d i = bAt l (o' + i) := by
            unfold bAt
            rw [hd, List.getD_eq_getElem?_getD, List.getD_eq_getElem?_getD, List.getElem?_take, if_pos (by omega), List.getElem?_drop]
          rw [hk, Nat.add_assoc]
          have hbel : Below w.heap.size w ((w.alloc (Obj.cells (splitV [59] 0 (count l [59]) ⟨b, off, none⟩ cap l).toArray (Tryz.splitL_ren.t 22))).drewN q) := below_drewN ((Below.refl _ _).alloc (Nat.le_refl _) _) _
          exact (hbel.cell (by exact hb)).trans (hc (o' + i) (by omega))
    · intro j u hu
      rw [World.cell?_drewN, World.cell?_alloc_new]
      simpa using hu
    · exact below_drewN ((Below.refl _ _).alloc (Nat.le_refl _) _) _

theorem split_le (l : List UInt8) : (split l [59]).length ≤ l.length + 1 := by
  have h := Lib.countB_le ⟨#[59]⟩ (by decide) l.length ⟨l.toArray⟩ (by simp [ByteArray.size])
  have e : (⟨l.toArray⟩ : ByteArray).size = l.length := by simp [ByteArray.size]
  rw [e] at h
  rw [split_len]
  exact Nat.succ_le_succ h

/-- What numbers answers to pieces of digits. -/
def NumsGot (ns : List Int) (w : World) (e : Ending) (w' : World) : Prop :=
  ∃ g k, e = .returned (.tuple #[.slice (some ⟨g, 0, none⟩) ns.length k, .bool true]) ∧ w.heap.size ≤ g ∧ g < w'.heap.size ∧ (∀ j z, ns[j]? = some z → w'.cell? ⟨g, j, none⟩ = some (.int .i64 z)) ∧ Below w.heap.size w w'

set_option maxHeartbeats 4000000 in
set_option maxRecDepth 100000 in
theorem numbersAt (l : List UInt8) (b off cap : Nat) (ns : List Int) (w : World) (hs : l.length ≤ 12) (h0 : l.length ≠ 0) (hcap : l.length ≤ cap) (hc63 : cap ≤ 9223372036854775807) (hw : Wd w) (hb : b < w.heap.size) (hc : ∀ j, j < l.length → w.cell? ⟨b, off + j, none⟩ = some (.int .u8 (bAt l j)))
    (hns : (split l [59]).map Lib.atoi = ns.map some) (hdig : ∀ d ∈ split l [59], Digs d) :
    Calls Tryz.prog 64 #[.slice (some ⟨b, off, none⟩) l.length cap] w (NumsGot ns w) := by
  have h0' : ((l.length : Int) == 0) = false := beq_eq_false_iff_ne.2 (by omega)
  have W1 := Lib.hid (show Below w.heap.size w (w.alloc (Obj.cells #[.int .u8 59] 5)) from (Below.refl _ _).alloc (Nat.le_refl _) _)
  have SP := Lib.hid (splitAt l b off cap w.heap.size (w.alloc (Obj.cells #[.int .u8 59] 5)) hs hcap hc63 (hw.below W1.out) (by simp; omega) (fun j hj => (W1.out.cell (by exact hb)).trans (hc j hj)) (by go_simp))
  obtain ⟨i0, hi, hz0, hz1, hz2⟩ := info_cut Tryz.info3
  have hlen : (split l [59]).length = ns.length := by have := congrArg List.length hns; simpa using this
  have hl1 : 1 ≤ ns.length := by rw [← hlen, split_len]; omega
  have HL := Lib.hid hlen
  have HNS := Lib.hid hns
  have HDG := Lib.hid hdig
  clear hw hc hns hdig hlen
  go_enter Tryz.func64, Tryz.ntmps64
  go_wp2_with fail
  (with_reducible refine SP.out.mono ?_)
  rintro e w2 ⟨vs, rfl, hP, hC, hB⟩
  have B2 := Lib.hid (W1.out.trans (hB.mono (by simp)))
  have HP := Lib.hid hP
  have HC := Lib.hid hC
  have hvs : vs.length = ns.length := by rw [hP.1, HL.out]
  have hvs2 : vs.length ≤ 13 := by
    have h1 := hP.1
    have h2 := split_le l
    omega
  clear hP hC hB SP W1
  go_wp2
  go_loopw [4, 6, 7, 8, 16] (fun v4 _ _ _ i wr => ∃ k, i = .int .i64 (k : Nat) ∧ k ≤ vs.length ∧ wr.ownsRow w2.heap.size 3 1 v4 k ((ns.take k).map (Value.int .i64)) ∧ Below w2.heap.size w2 wr) (fun _ _ _ _ i _ => vs.length - (RowKit.intOf i).toNat)
  case atStart => exact ⟨0, rfl, Nat.zero_le _, World.ownsRow_nil _ _ _ _, Below.refl _ _⟩
  case round =>
    obtain ⟨k, rfl, hk, hown, hbel⟩ := hrel
    by_cases hlt : k < vs.length
    · have hlt' : (k : Int) < (vs.length : Int) := by omega
      have hkl : k < (split l [59]).length := by rw [HL.out]; omega
      obtain ⟨d, hj⟩ : ∃ d, (split l [59])[k]? = some d := ⟨_, List.getElem?_eq_getElem hkl⟩
      obtain ⟨n, hn⟩ : ∃ n, ns[k]? = some n := ⟨_, List.getElem?_eq_getElem (by omega)⟩
      have hat : Lib.atoi d = some n := by
        have := congrArg (·[k]?) HNS.out
        simp only [List.getElem?_map, hj, hn, Option.map_some, Option.some.injEq] at this
        exact this
      obtain ⟨a', cp, hv, hdl, hin⟩ := HP.out.2 k d hj
      have ck0 : w2.cell? ⟨w.heap.size + 1, k, none⟩ = some (.slice a' d.length cp) := by have := HC.out k _ hv; simpa using this
      have ck := (hbel.cell (p := ⟨w.heap.size + 1, k, none⟩) (block_lt_of_cell ck0)).trans ck0
      have NA := Lib.hid (numberAt d n a' cp wr (HDG.out d (List.mem_of_getElem? hj)) hat (hin.below hbel))
      have HO := Lib.hid hown
      have HB := Lib.hid hbel
      have HT := Lib.hid (show (ns.take (k + 1)).map (Value.int .i64) = (ns.take k).map (Value.int .i64) ++ [.int .i64 n] by rw [List.take_add_one, hn, Option.toList_some, List.map_append]; rfl)
      have S2 := hbel.size
      clear ck0 hown hbel hj hv hin hkl hdl hat hn
      go_wp2_with (first
        | (go_at_call 74; (with_reducible refine NA.out.mono ?_); rintro e w4 ⟨rfl, hb4⟩; have B4 := Lib.hid hb4; have O4 := Lib.hid (own_below HO.out hb4); have S4 := hb4.size; clear hb4 HO)
        | (at_builtin; refine wpList_append_own _ rfl _ _ 106 rfl w2.heap.size 3 i0 (.int .i64 0) 1 8 Tryz.underlying106 hi hz0 hz1 hz2 rfl (by decide) _ _ _ rfl (O4.out.alloc _) ⟨w4.heap.size, 0, none⟩ 1 1 [.int .i64 n] rfl rfl (new_cells _ _ _) (by intro u hu; simp at hu; subst hu; rfl) (by unfold maxLen; omega) (by omega) (by simp; omega) ?_))
      intro v5 w5 own5 gr5 _
      have O5 := Lib.hid own5
      have B5 := Lib.hid (((HB.out.trans (B4.out.mono S2)).alloc (by omega) _).grown gr5 (by simp; omega) (fun j hj => (O4.out.lt j hj).1))
      clear own5 gr5
      go_wp2
      go_roundw
      case rel => exact ⟨k + 1, by go_num, by omega, by rw [HT.out, List.map_take]; exact O5.out, B5.out⟩
      case measure => (simp [RowKit.intOf]; try omega)
    · obtain rfl : k = vs.length := by omega
      have BR := Lib.hid (B2.out.trans (hbel.mono B2.out.size))
      rw [List.take_of_length_le (by omega)] at hown
      rcases hown.2 with ⟨_, h⟩ | ⟨g, kk, cur, rfl, hBg, hh, _⟩
      · omega
      have HC4 := Lib.hid (show ∀ j z, ns[j]? = some z → wr.cell? ⟨g, j, none⟩ = some (.int .i64 z) from fun j z hz => by
        have := hown.cells (g := g) rfl j (.int .i64 z) (by rw [List.getElem?_map, hz]; rfl)
        rwa [Addr.add_lit, Nat.zero_add] at this)
      have hg1 : w.heap.size ≤ g := Nat.le_trans B2.out.size hBg
      have hg2 : g < wr.heap.size := (Array.getElem?_eq_some_iff.1 hh).1
      clear hown hbel hlt hk hh
      rw [hvs]
      go_wp2
      go_ret2
      exact ⟨g, kk, rfl, hg1, hg2, HC4.out, BR.out⟩
end Go.Proofs.YtnbpkabnaipimaaGreatDoor
