/- The contract of newNode. -/
import Derived.Test.YtlijkejadjkbcaaBase
import Derived.Deep.OwnRows
import Derived.Handy
namespace Go.Proofs.Ytlijkejadjkbcaa
open Go Go.RowKit

/-- How many new lines there are. -/
def brk (zs : List Int) : Nat := (zs.filter (fun z => z == 10)).length

theorem brk_snoc (zs : List Int) (k : Nat) (z : Int) (h : zs[k]? = some z) : brk (zs.take (k + 1)) = brk (zs.take k) + (if z = 10 then 1 else 0) := by
  unfold brk
  rw [List.take_add_one, h]
  by_cases hz : z = 10 <;> simp [hz]

theorem brk_le (zs : List Int) : brk zs ≤ zs.length := List.length_filter_le _ _

theorem newNode (b off n cap : Nat) (zs : List Int) (w : World) (hn : n ≤ 2000) (hcap : n ≤ cap) (hlt : b < w.heap.size) (hz : zs.length = n)
    (hb : ∀ z ∈ zs, -2147483648 ≤ z ∧ z ≤ 2147483647)
    (hc : ∀ j z, zs[j]? = some z → w.cell? ⟨b, off + j, none⟩ = some (.int .i32 z)) :
    Calls Try.prog 37 #[.slice (some ⟨b, off, none⟩) n cap] w fun e w' => e = .returned (.agg #[.slice (some ⟨b, off, none⟩) n n, .int .i64 n, .int .i64 (brk zs), .int .i64 (encCells zs).length]) ∧ Below w.heap.size w w' := by
  have HZ := Lib.hid hz
  have HB := Lib.hid hb
  have HC := Lib.hid hc
  clear hz hb hc
  go_enter Try.func37, Try.ntmps37
  go_wp2_with fail
  refine (encode _ n cap zs _ (by omega) ⟨HZ.out, .inr ⟨b, off, rfl, ?_, fun j z hz => ?_⟩⟩ HB.out).mono ?_
  · simp; omega
  · exact (World.cell?_alloc_lt _ _ _ hlt).trans (HC.out j z hz)
  rintro e w1 ⟨v, rfl, hown, hbel⟩
  obtain ⟨a, c, rfl⟩ : ∃ a c, v = .slice a (encCells zs).length c := by
    rcases hown.2 with ⟨rfl, h0⟩ | ⟨g, c, cur, rfl, _⟩
    · exact ⟨none, 0, by rw [h0]⟩
    · exact ⟨_, c, rfl⟩
  have hle := encCells_le zs
  have hzl := HZ.out
  obtain ⟨m, hm⟩ : ∃ m, m = (encCells zs).length := ⟨_, rfl⟩
  have hm4 : m ≤ 8000 := by omega
  rw [← hm]
  have HM := Lib.hid hm
  have hk : w1.heap[w.heap.size]? = some (.cells #[.slice none 0 0, .int .i64 0, .int .i64 0, .int .i64 0] 65) := (hbel.block w.heap.size (by simp)).trans (heap_alloc_new w _)
  have hsz : w.heap.size < w1.heap.size := by have := hbel.size; simp at this; omega
  have B1 := Lib.hid (show Below w.heap.size w w1 from ((Below.refl _ _).alloc (Nat.le_refl _) _).trans (hbel.mono (by simp)))
  have R0 : w1.rowIs w.heap.size 65 4 (fun i => if i = 0 then .slice none 0 0 else .int .i64 0) :=
    (World.rowIs_alloc w _ 65 _ (by intro i hi; match i, hi with | 0, _ => rfl | 1, _ => rfl | 2, _ => rfl | 3, _ => rfl)).of_block (hbel.block w.heap.size (by simp))
  have c0 : ∀ o, (w1.alloc o).cell? ⟨w.heap.size, 0, none⟩ = some (.slice none 0 0) := fun o => (R0.alloc o).cell (by omega)
  have f0 := fun o => (R0.alloc o).frozen 0
  have c1 : ∀ o v0, ((w1.setCell ⟨w.heap.size, 0, none⟩ v0).alloc o).cell? ⟨w.heap.size, 1, none⟩ = some (.int .i64 0) := fun o v0 => ((R0.set 0 v0).alloc o).cell (by omega)
  have f1 := fun o v0 => ((R0.set 0 v0).alloc o).frozen 1
  have c2 : ∀ o v0 v1, (((w1.setCell ⟨w.heap.size, 0, none⟩ v0).setCell ⟨w.heap.size, 1, none⟩ v1).alloc o).cell? ⟨w.heap.size, 2, none⟩ = some (.int .i64 0) := fun o v0 v1 => (((R0.set 0 v0).set 1 v1).alloc o).cell (by omega)
  have f2 := fun o v0 v1 => (((R0.set 0 v0).set 1 v1).alloc o).frozen 2
  have c3 : ∀ o v0 v1 v2, ((((w1.setCell ⟨w.heap.size, 0, none⟩ v0).setCell ⟨w.heap.size, 1, none⟩ v1).setCell ⟨w.heap.size, 2, none⟩ v2).alloc o).cell? ⟨w.heap.size, 3, none⟩ = some (.int .i64 0) := fun o v0 v1 v2 => ((((R0.set 0 v0).set 1 v1).set 2 v2).alloc o).cell (by omega)
  have f3 := fun o v0 v1 v2 => ((((R0.set 0 v0).set 1 v1).set 2 v2).alloc o).frozen 3
  have R4 := fun o v0 v1 v2 v3 => (((((R0.set 0 v0).set 1 v1).set 2 v2).set 3 v3).alloc o)
  have r0 := fun o v0 v1 v2 v3 => (R4 o v0 v1 v2 v3).cell (i := 0) (by omega)
  have r1 := fun o v0 v1 v2 v3 => (R4 o v0 v1 v2 v3).cell (i := 1) (by omega)
  have r2 := fun o v0 v1 v2 v3 => (R4 o v0 v1 v2 v3).cell (i := 2) (by omega)
  have r3 := fun o v0 v1 v2 v3 => (R4 o v0 v1 v2 v3).cell (i := 3) (by omega)
  simp only [reduceIte] at r0 r1 r2 r3
  clear R4 R0
  have HC1 := Lib.hid (show ∀ o j z, zs[j]? = some z → (w1.alloc o).cell? ⟨b, off + j, none⟩ = some (.int .i32 z) from fun o j z hz => by
    rw [World.cell?_alloc_lt _ _ _ (Nat.lt_trans hlt hsz)]
    exact (B1.out.cell (by exact hlt)).trans (HC.out j z hz))
  clear hm hown hbel hle hzl hk HC
  go_wp2_with fail
  go_loopw [14] (fun i wr => ∃ k : Nat, k ≤ n ∧ i = .int .i64 k ∧ wr = w1.alloc (Obj.cells #[.int .i64 n, .int .i64 (brk (zs.take k)), .int .i64 m] 63)) (fun i _ => n - (intOf i).toNat)
  case atStart => exact ⟨0, Nat.zero_le _, rfl, rfl⟩
  case round =>
    obtain ⟨k, hk, rfl, rfl⟩ := hrel
    by_cases hltk : k < n
    · obtain ⟨z, hz⟩ : ∃ z, zs[k]? = some z := ⟨zs[k]'(by have := HZ.out; omega), by simp⟩
      have hc := fun o => HC1.out o k z hz
      have hs := brk_snoc zs k z hz
      have hbl : brk (zs.take k) ≤ k := Nat.le_trans (brk_le _) (List.length_take_le _ _)
      obtain ⟨q, hq⟩ : ∃ q, q = brk (zs.take k) := ⟨_, rfl⟩
      rw [← hq] at hs hbl ⊢
      have HS := Lib.hid hs
      clear hs hq hz
      by_cases h10 : z = 10
      · subst h10
        go_wp2
        go_roundw
        case rel => exact ⟨k + 1, by omega, by go_num, by rw [HS.out]; simp⟩
        case measure => simp [intOf]; omega
      · go_wp2
        go_roundw
        case rel => exact ⟨k + 1, by omega, by go_num, by rw [HS.out]; simp [h10]⟩
        case measure => simp [intOf]; omega
    · have e : zs.take k = zs := List.take_of_length_le (by have := HZ.out; omega)
      rw [e]
      obtain ⟨q, hq⟩ : ∃ q, q = brk zs := ⟨_, rfl⟩
      rw [← hq]
      have HQ := Lib.hid hq
      clear e hq
      go_wp2
      go_region
      go_wp2
      refine bodyPost_ret (v := .agg #[.slice (some ⟨b, off, none⟩) n n, .int .i64 n, .int .i64 q, .int .i64 m]) ?_ rfl ⟨by rw [HQ.out, HM.out], ?_⟩
      · clear f0 f1 f2 f3 c0 c1 c2 c3
        simp [results, Try.results37, go_sem, r0, r1, r2, r3]
      exact ((((((B1.out.setCell (Nat.le_refl _) _).setCell (Nat.le_refl _) _).setCell (Nat.le_refl _) _).setCell (Nat.le_refl _) _).alloc (by simp [World.setCell]; omega) _).drew)
end Go.Proofs.Ytlijkejadjkbcaa
