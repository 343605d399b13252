/- The contract of count: the sums of all nodes together. -/
import Derived.Test.YtlijkejadjkbcaaData
namespace Go.Proofs.Ytlijkejadjkbcaa
open Go Go.RowKit

def sum3 (a b c : Nat) : Nat → Value := fun i => if i = 0 then .int .i64 a else if i = 1 then .int .i64 b else .int .i64 c

set_option maxHeartbeats 1000000 in
theorem count_cells (b off n cap : Nat) (ns : List Nd) (w : World) (hn : n ≤ 2500) (hl : ns.length = n) (hlt : b < w.heap.size) (ht : (text ns).length ≤ 2500)
    (hc : ∀ j u, (flat ns)[j]? = some u → w.cell? ⟨b, off + j, none⟩ = some u) :
    Calls Try.prog 32 #[.slice (some ⟨b, off, none⟩) n cap] w fun e w' => e = .returned (.agg #[.int .i64 (text ns).length, .int .i64 (brk (text ns)), .int .i64 (encCells (text ns)).length]) ∧ Below w.heap.size w w' := by
  have HL := Lib.hid hl
  have HT := Lib.hid ht
  have HC := Lib.hid hc
  clear hl ht hc
  go_enter Try.func32, Try.ntmps32
  go_wp2_with fail
  go_loopw [8] (fun i wr => ∃ k : Nat, k ≤ n ∧ i = .int .i64 k ∧ wr.rowIs w.heap.size 63 3 (sum3 0 0 0) ∧ wr.rowIs (w.heap.size + 1) 63 3 (sum3 (text (ns.take k)).length (brk (text (ns.take k))) (encCells (text (ns.take k))).length) ∧ Below w.heap.size w wr) (fun i _ => n - (intOf i).toNat)
  case atStart =>
    refine ⟨0, Nat.zero_le _, rfl, ?_, ?_, ?_⟩
    · exact (World.rowIs_alloc w _ 63 _ (by intro i hi; match i, hi with | 0, _ => rfl | 1, _ => rfl | 2, _ => rfl)).alloc _
    · have h := World.rowIs_alloc (w.alloc (Obj.cells #[Value.int IntKind.i64 0, Value.int IntKind.i64 0, Value.int IntKind.i64 0] 63)) #[Value.int IntKind.i64 0, Value.int IntKind.i64 0, Value.int IntKind.i64 0] 63 (sum3 0 0 0) (by intro i hi; match i, hi with | 0, _ => rfl | 1, _ => rfl | 2, _ => rfl)
      simp at h
      exact h
    · exact ((Below.refl _ _).alloc (Nat.le_refl _) _).alloc (by simp) _
  case round =>
    obtain ⟨k, hk, rfl, hr0, hr1, hbel⟩ := hrel
    have hb2 : w.heap.size + 1 < wr.heap.size := hr1.lt
    by_cases hltk : k < n
    · obtain ⟨x, hx⟩ : ∃ x, ns[k]? = some x := ⟨ns[k]'(by have := HL.out; omega), by simp⟩
      obtain ⟨d0, d1, d2, d3⟩ := nodeCells HC.out k x hx
      have e0 := (hbel.cell (by exact hlt)).trans d0
      have e1 := (hbel.cell (by exact hlt)).trans d1
      have e2 := (hbel.cell (by exact hlt)).trans d2
      have e3 := (hbel.cell (by exact hlt)).trans d3
      have ts := text_snoc ns k x hx
      have tb := Nat.le_trans (text_take_le ns (k + 1)) HT.out
      rw [ts, List.length_append] at tb
      have bb := brk_le (text (ns.take k))
      have bx := brk_le x.cs
      have eb := encCells_le (text (ns.take k))
      have ex := encCells_le x.cs
      have HS := Lib.hid (show (text (ns.take (k + 1))).length = (text (ns.take k)).length + x.cs.length ∧ brk (text (ns.take (k + 1))) = brk (text (ns.take k)) + brk x.cs ∧ (encCells (text (ns.take (k + 1)))).length = (encCells (text (ns.take k))).length + (encCells x.cs).length from
        ⟨by rw [ts, List.length_append], by rw [ts, brk_append], by rw [ts, enc_append, List.length_append]⟩)
      generalize (text (ns.take k)).length = A at *
      generalize brk (text (ns.take k)) = Bk at *
      generalize (encCells (text (ns.take k))).length = E at *
      generalize x.cs.length = xA at *
      generalize brk x.cs = xB at *
      generalize (encCells x.cs).length = xE at *
      have c0 : ∀ o, (wr.alloc o).cell? ⟨w.heap.size + 1, 0, none⟩ = some (.int .i64 A) := fun o => (hr1.alloc o).cell (by omega)
      have f0 := fun o => (hr1.alloc o).frozen 0
      have c1 : ∀ o v0, ((wr.setCell ⟨w.heap.size + 1, 0, none⟩ v0).alloc o).cell? ⟨w.heap.size + 1, 1, none⟩ = some (.int .i64 Bk) := fun o v0 => ((hr1.set 0 v0).alloc o).cell (by omega)
      have f1 := fun o v0 => ((hr1.set 0 v0).alloc o).frozen 1
      have c2 : ∀ o v0 v1, (((wr.setCell ⟨w.heap.size + 1, 0, none⟩ v0).setCell ⟨w.heap.size + 1, 1, none⟩ v1).alloc o).cell? ⟨w.heap.size + 1, 2, none⟩ = some (.int .i64 E) := fun o v0 v1 => (((hr1.set 0 v0).set 1 v1).alloc o).cell (by omega)
      have f2 := fun o v0 v1 => (((hr1.set 0 v0).set 1 v1).alloc o).frozen 2
      have R0 := Lib.hid hr0
      have R1 := Lib.hid hr1
      have BL := Lib.hid hbel
      clear hr0 hr1 hbel d0 d1 d2 d3 ts hx
      go_wp2
      go_roundw
      case rel =>
        refine ⟨k + 1, by omega, by go_num, ?_, ?_, ?_⟩
        · exact (((R0.out.setOther (by simp) _).setOther (by simp) _).setOther (by simp) _).alloc _
        · refine ((((R1.out.set 0 _).set 1 _).set 2 _).alloc _).congr ?_
          intro i hi
          rw [HS.out.1, HS.out.2.1, HS.out.2.2]
          match i, hi with
          | 0, _ => simp [sum3]
          | 1, _ => simp [sum3]
          | 2, _ => simp [sum3]
        · exact (((BL.out.setCell (by simp) _).setCell (by simp) _).setCell (by simp) _).alloc (by simp [World.setCell]; omega) _
      case measure => simp [intOf]; omega
    · have e : ns.take k = ns := List.take_of_length_le (by have := HL.out; omega)
      rw [e] at hr1
      have q0 : wr.cell? ⟨w.heap.size + 1, 0, none⟩ = some (.int .i64 (text ns).length) := hr1.cell (by omega)
      have q1 : wr.cell? ⟨w.heap.size + 1, 1, none⟩ = some (.int .i64 (brk (text ns))) := hr1.cell (by omega)
      have q2 : wr.cell? ⟨w.heap.size + 1, 2, none⟩ = some (.int .i64 (encCells (text ns)).length) := hr1.cell (by omega)
      have c0 : wr.cell? ⟨w.heap.size, 0, none⟩ = some (.int .i64 0) := hr0.cell (by omega)
      have c1 : ∀ v0, (wr.setCell ⟨w.heap.size, 0, none⟩ v0).cell? ⟨w.heap.size, 1, none⟩ = some (.int .i64 0) := fun v0 => (hr0.set 0 v0).cell (by omega)
      have c2 : ∀ v0 v1, ((wr.setCell ⟨w.heap.size, 0, none⟩ v0).setCell ⟨w.heap.size, 1, none⟩ v1).cell? ⟨w.heap.size, 2, none⟩ = some (.int .i64 0) := fun v0 v1 => ((hr0.set 0 v0).set 1 v1).cell (by omega)
      have f0 := hr0.frozen 0
      have f1 := fun v0 => (hr0.set 0 v0).frozen 1
      have f2 := fun v0 v1 => ((hr0.set 0 v0).set 1 v1).frozen 2
      have R3 := fun v0 v1 v2 => (((hr0.set 0 v0).set 1 v1).set 2 v2)
      have r0 := fun v0 v1 v2 => (R3 v0 v1 v2).cell (i := 0) (by omega)
      have r1 := fun v0 v1 v2 => (R3 v0 v1 v2).cell (i := 1) (by omega)
      have r2 := fun v0 v1 v2 => (R3 v0 v1 v2).cell (i := 2) (by omega)
      simp only [reduceIte] at r0 r1 r2
      have BL := Lib.hid hbel
      clear hr0 hr1 hbel R3 e
      obtain ⟨A, hA⟩ : ∃ A, A = (text ns).length := ⟨_, rfl⟩
      obtain ⟨Bk, hB⟩ : ∃ A, A = brk (text ns) := ⟨_, rfl⟩
      obtain ⟨E, hE⟩ : ∃ A, A = (encCells (text ns)).length := ⟨_, rfl⟩
      rw [← hA] at q0
      rw [← hB] at q1
      rw [← hE] at q2
      have HA := Lib.hid hA
      have HB := Lib.hid hB
      have HE := Lib.hid hE
      clear hA hB hE
      go_wp2
      refine bodyPost_ret (v := .agg #[.int .i64 A, .int .i64 Bk, .int .i64 E]) ?_ rfl ⟨by rw [HA.out, HB.out, HE.out], ?_⟩
      · simp [results, Try.results32, go_sem, r0, r1, r2]
      exact ((BL.out.setCell (Nat.le_refl _) _).setCell (Nat.le_refl _) _).setCell (Nat.le_refl _) _

theorem count_none (a : Option Addr) (cap : Nat) (w : World) :
    Calls Try.prog 32 #[.slice a 0 cap] w fun e w' => e = .returned (.agg #[.int .i64 0, .int .i64 0, .int .i64 0]) ∧ Below w.heap.size w w' := by
  go_enter Try.func32, Try.ntmps32
  go_wp2_with fail
  go_loopw [8] (fun i wr => i = .int .i64 0 ∧ wr = (w.alloc (Obj.cells #[Value.int IntKind.i64 0, Value.int IntKind.i64 0, Value.int IntKind.i64 0] 63)).alloc (Obj.cells #[Value.int IntKind.i64 0, Value.int IntKind.i64 0, Value.int IntKind.i64 0] 63)) (fun i _ => 0)
  case atStart => exact ⟨rfl, rfl⟩
  case round =>
    obtain ⟨rfl, rfl⟩ := hrel
    go_wp2
    refine bodyPost_ret (v := .agg #[.int .i64 0, .int .i64 0, .int .i64 0]) ?_ rfl ⟨rfl, ?_⟩
    · simp [results, Try.results32, go_sem]
    go_grown

theorem count (rb : Option Nat) (a : Option Addr) (n cap : Nat) (ns : List Nd) (w : World) (h : Nodes w rb a n cap ns) (ht : (text ns).length ≤ 2500) :
    Calls Try.prog 32 #[.slice a n cap] w fun e w' => e = .returned (.agg #[.int .i64 (text ns).length, .int .i64 (brk (text ns)), .int .i64 (encCells (text ns)).length]) ∧ Below w.heap.size w w' := by
  have hl := text_len h.chunks
  rcases h.row with h0 | ⟨b, off, rfl, hlt, hne, hc⟩
  · subst h0
    obtain rfl : ns = [] := List.eq_nil_of_length_eq_zero h.len
    exact count_none a cap w
  · exact count_cells b off n cap ns w (by have := h.len; omega) h.len hlt ht hc
end Go.Proofs.Ytlijkejadjkbcaa
