/- Contract of the program's own encoder. -/
import Derived.Shelf.Utf8.AppendRunePlain
import Derived.Test.YtnbpkabnaipimaaDoorProg
import Derived.Test.YtnbpkabnaipimaaDoorUtf
namespace Go.Proofs
open Go.Shelf
def Tryd.lays242_ren : Go.Shelf.Ren := ⟨fun | 242 => 38 | 278 => 45 | n => n, fun | 37 => 32 | 21 => 21 | 51 => 83 | 4 => 4 | 5 => 5 | 46 => 78 | n => n, fun | n => n⟩
theorem Tryd.lays242 : Go.Proofs.Lays.n242 Tryd.prog Tryd.lays242_ren := {
  mixed := by kernel_rfl
  f242 := Tryd.func38.trans (congrArg some (by kernel_rfl))
  f278 := Tryd.func45.trans (congrArg some (by kernel_rfl))
  t4 := Tryd.underlying4
  a4 := Tryd.isAgg4
  z4 := Tryd.sizeOf4
  v4 := Tryd.zeroValue4
  t5 := Tryd.underlying5
  a5 := Tryd.isAgg5
  z5 := Tryd.sizeOf5
  v5 := Tryd.zeroValue5
  t21 := Tryd.underlying21
  a21 := Tryd.isAgg21
  z21 := Tryd.sizeOf21
  v21 := Tryd.zeroValue21
  t37 := Tryd.underlying32
  a37 := Tryd.isAgg32
  z37 := Tryd.sizeOf32
  v37 := Tryd.zeroValue32
  t46 := Tryd.underlying78
  a46 := Tryd.isAgg78
  z46 := Tryd.sizeOf78
  v46 := Tryd.zeroValue78
  t51 := Tryd.underlying83
  a51 := Tryd.isAgg83
  z51 := Tryd.sizeOf83
  v51 := Tryd.zeroValue83 }
end Go.Proofs
namespace Go.Proofs.YtnbpkabnaipimaaDoor
open Go Go.RowKit

/-- utf8.AppendRune, at this program: the library's contract. -/
theorem appendRune (B : Nat) (v : Value) (n : Nat) (xs : List Value) (r : Int) (hr0 : -2147483648 ≤ r) (hr1 : r ≤ 2147483647) (w : World) (hown : w.ownsRow B 5 1 v n xs) (hlen : n + 4 ≤ 140737488355328) (hBw : B ≤ w.heap.size) :
    Calls Tryd.prog 38 #[v, .int .i32 r] w fun e w' => ∃ v', e = .returned v' ∧ w'.ownsRow B 5 1 v' (n + (Lib.runeCells r).length) (xs ++ Lib.runeCells r) ∧ ∃ o, (w.alloc o).grownBy w' v.ownBlock :=
  Any.utf8_AppendRune_plain Tryd.lays242 (by kernel_rfl) B v n xs r hr0 hr1 w hown hlen hBw

set_option maxHeartbeats 1600000 in
theorem encode_cells (b off n cap : Nat) (zs : List Int) (w : World) (hn : n ≤ 1099511627776) (hz : zs.length = n) (hbw : 0 < n → b < w.heap.size)
    (hb : ∀ z ∈ zs, -2147483648 ≤ z ∧ z ≤ 2147483647)
    (hc : ∀ j z, zs[j]? = some z → w.cell? ⟨b, off + j, none⟩ = some (.int .i32 z)) :
    Calls Tryd.prog 30 #[.slice (some ⟨b, off, none⟩) n cap] w fun e w' =>
      ∃ v, e = .returned v ∧ w'.ownsRow w.heap.size 5 1 v (encCells zs).length (encCells zs) ∧ Below w.heap.size w w' := by
  obtain ⟨i0, hi, hz0, hz1, hz2⟩ := info_parts Tryd.info5
  have HZ := Lib.hid hz; clear hz
  have HB := Lib.hid hb; clear hb
  have HC := Lib.hid hc; clear hc
  go_enter Tryd.func30, Tryd.ntmps30
  go_wp2_with (at_make; refine wpList_make_own _ rfl _ _ 32 rfl w.heap.size 5 i0 (.int .u8 0) 1 Tryd.underlying32 hi hz0 hz1 .i64 .i64 _ n rfl rfl rfl (by rw [hz2]; omega) (by unfold maxLen; omega) (Nat.le_refl _) ?_)
  intro w1 hown1 hgrow1
  have HG := Lib.hid hgrow1; clear hgrow1
  go_wp2
  go_loopw [3, 11] (fun v i wr => ∃ k : Nat, k ≤ n ∧ i = .int .i64 k ∧ wr.ownsRow w.heap.size 5 1 v (encCells (zs.take k)).length (encCells (zs.take k)) ∧ Below w.heap.size w wr)
    (fun _ i _ => n - (intOf i).toNat)
  case atStart => exact ⟨0, Nat.zero_le _, rfl, hown1, (Below.refl _ _).grown HG.out (Nat.le_refl _) (by simp)⟩
  case round =>
    obtain ⟨k, hk, rfl, hown, hbel⟩ := hrel
    by_cases hlt : k < n
    · obtain ⟨z, hz⟩ : ∃ z, zs[k]? = some z := ⟨zs[k]'(by have := HZ.out; omega), by simp⟩
      have hzb := HB.out z (List.mem_of_getElem? hz)
      have hcell : wr.cell? ⟨b, off + k, none⟩ = some (.int .i32 z) := (hbel.cell (by exact hbw (by omega))).trans (HC.out k z hz)
      have hle := encCells_le (zs.take k)
      have hlt2 : (zs.take k).length ≤ k := List.length_take_le _ _
      have hsz := hbel.size
      have HS := Lib.hid (encCells_snoc zs k z hz)
      have HZ2 := Lib.hid hz; clear hz
      have HO := Lib.hid hown; clear hown
      cases hv : Lib.validRune z
      · have HV := Lib.hid hv
        go_wp2_with (first
          | (go_at_call 36; refine (right _ _).mono ?_; rintro e w' ⟨rfl, rfl⟩)
          | (go_at_call 38; refine (appendRune w.heap.size _ _ _ 65533 (by decide) (by decide) _ HO.out (by omega) (by omega)).mono ?_))
        rintro e w2 ⟨v', rfl, hown', o, hg⟩
        have hbel' : Below w.heap.size w w2 := (hbel.alloc (by omega) o).grown hg (by simp; omega) (fun k hk => (HO.out.lt k hk).1)
        rw [runeCells_odd HV.out, ← List.length_append, ← HS.out] at hown'
        have HO2 := Lib.hid hown'; clear hown' hg hcell
        go_wp2
        go_roundw
        case rel => exact ⟨k + 1, by omega, by go_num, HO2.out, hbel'⟩
        case measure => simp [intOf]; omega
      · go_wp2_with (first
          | (go_at_call 36; refine (right _ _).mono ?_; rintro e w' ⟨rfl, rfl⟩)
          | (go_at_call 38; refine (appendRune w.heap.size _ _ _ z (by omega) (by omega) _ HO.out (by omega) (by omega)).mono ?_))
        rintro e w2 ⟨v', rfl, hown', o, hg⟩
        have hbel' : Below w.heap.size w w2 := (hbel.alloc (by omega) o).grown hg (by simp; omega) (fun k hk => (HO.out.lt k hk).1)
        rw [← List.length_append, ← HS.out] at hown'
        have HO2 := Lib.hid hown'; clear hown' hg hcell
        go_wp2
        go_roundw
        case rel => exact ⟨k + 1, by omega, by go_num, HO2.out, hbel'⟩
        case measure => simp [intOf]; omega
    · have HO := Lib.hid hown; clear hown
      go_wp2
      go_ret
      have e : zs.take k = zs := List.take_of_length_le (by have := HZ.out; omega)
      have ho := HO.out
      rw [e] at ho
      exact ⟨_, rfl, ho, hbel⟩

theorem encode_none (a : Option Addr) (cap : Nat) (w : World) :
    Calls Tryd.prog 30 #[.slice a 0 cap] w fun e w' =>
      ∃ v, e = .returned v ∧ w'.ownsRow w.heap.size 5 1 v 0 [] ∧ Below w.heap.size w w' := by
  obtain ⟨i0, hi, hz0, hz1, hz2⟩ := info_parts Tryd.info5
  go_enter Tryd.func30, Tryd.ntmps30
  go_wp2_with (at_make; refine wpList_make_own _ rfl _ _ 32 rfl w.heap.size 5 i0 (.int .u8 0) 1 Tryd.underlying32 hi hz0 hz1 .i64 .i64 _ 0 rfl rfl rfl (by omega) (by unfold maxLen; omega) (Nat.le_refl _) ?_)
  intro w1 hown1 hgrow1
  have HG := Lib.hid hgrow1; clear hgrow1
  have HO := Lib.hid hown1; clear hown1
  go_wp2
  go_loopw [3, 11] (fun v i wr => v = .slice (some ⟨w.heap.size, 0, none⟩) 0 0 ∧ i = .int .i64 0 ∧ wr = w1) (fun _ _ _ => 0)
  case atStart => exact ⟨rfl, rfl, rfl⟩
  case round =>
    obtain ⟨rfl, rfl, rfl⟩ := hrel
    go_wp2
    go_ret
    exact ⟨_, rfl, HO.out, (Below.refl _ _).grown HG.out (Nat.le_refl _) (by simp)⟩

/-- utf.Encode: the bytes of any runes, in new memory. -/
theorem encode (a : Option Addr) (n cap : Nat) (zs : List Int) (w : World) (hn : n ≤ 1099511627776) (h : SeqAt .i32 w a n zs) (hb : ∀ z ∈ zs, -2147483648 ≤ z ∧ z ≤ 2147483647) :
    Calls Tryd.prog 30 #[.slice a n cap] w fun e w' =>
      ∃ v, e = .returned v ∧ w'.ownsRow w.heap.size 5 1 v (encCells zs).length (encCells zs) ∧ Below w.heap.size w w' := by
  obtain ⟨hl, rfl | ⟨b, off, rfl, hlt, hc⟩⟩ := h
  · obtain rfl : zs = [] := List.eq_nil_of_length_eq_zero hl
    exact encode_none a cap w
  · exact encode_cells b off n cap zs w hn hl (fun _ => hlt) hb hc

end Go.Proofs.YtnbpkabnaipimaaDoor
