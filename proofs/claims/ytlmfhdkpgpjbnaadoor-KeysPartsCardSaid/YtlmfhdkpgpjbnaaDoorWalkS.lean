/- The contract of sequenceKey: the key of a sequence. Conditions: at most twelve bytes ahead, which lie in memory; two variables of the library's hold something. -/
import Derived.Test.YtlmfhdkpgpjbnaaDoorWalkN
namespace Go.Proofs.YtlmfhdkpgpjbnaaDoor
open Go Go.RowKit Go.Lib

theorem intsBelow {l : List Int} {a : Option Addr} {w w' : World} (h : IntsIn l a w) (hb : Below w.heap.size w w') : IntsIn l a w' := by
  rcases h with h0 | ⟨b, off, rfl, hlt, hc⟩
  · exact .inl h0
  · exact .inr ⟨b, off, rfl, Nat.lt_of_lt_of_le hlt hb.size, fun j hj => (hb.cell (by exact hlt)).trans (hc j hj)⟩

/-- A result that lies in a cell. -/
theorem results_cell1 {fn : Func} {p : Tmp} {ty : TypeId} (h : fn.results = #[.cell p ty]) (tmps : Array Value) (P : Program) (w : World) :
    (results fn tmps).run P w = ((asAddr (tmps.getD p undef)).run P w).andThen fun a w₁ => (loadVar ty a).run P w₁ := by
  simp only [results, h]
  simp [Sem.run_bind, Result.andThen]

theorem numsP_len (l : List UInt8) (ns : List Int) (h : numsP l = some ns) : ns.length ≤ l.length + 1 := by
  unfold numsP at h
  split at h
  · cases h; exact Nat.zero_le _
  · rw [numsL_len _ _ h]; exact split_le l

def Ky.val (x : Ky) : Value := .agg #[.int .i64 x.k, .int .i32 x.r, .int .i64 x.m]

set_option maxHeartbeats 4000000 in
set_option maxRecDepth 100000 in
theorem seqKeyAt (l : List UInt8) (c : Nat) (a : Option Addr) (cap : Nat) (w : World) (hs : l.length ≤ 12) (hcap : l.length ≤ cap) (hc63 : cap ≤ 9223372036854775807) (hw : Wd w) (h : BytesIn l a w) :
    Calls Tryd.prog 16 #[.slice a l.length cap, .int .u8 c] w fun e w' => e = .returned (seqKey l c).val ∧ Below w.heap.size w w' := by
  have B0 := Lib.hid (show Below w.heap.size w (w.alloc (Obj.cells #[.int .i64 0, .int .i32 0, .int .i64 0] 30)) from (Below.refl _ _).alloc (Nat.le_refl _) _)
  have HN := Lib.hid (numbersAt l a cap (w.alloc (Obj.cells #[.int .i64 0, .int .i32 0, .int .i64 0] 30)) hs hcap hc63 (hw.below B0.out) (h.below B0.out))
  clear h hw
  go_enter Tryd.func16, Tryd.ntmps16
  go_wp2_with fail
  (with_reducible refine HN.out.mono ?_)
  rintro e w1 ⟨hb, h⟩
  have r0 : w1.cell? ⟨w.heap.size, 0, none⟩ = some (.int .i64 0) := (hb.cell (by simp)).trans (by go_simp)
  have r1 : w1.cell? ⟨w.heap.size, 1, none⟩ = some (.int .i32 0) := (hb.cell (by simp)).trans (by go_simp)
  have r2 : w1.cell? ⟨w.heap.size, 2, none⟩ = some (.int .i64 0) := (hb.cell (by simp)).trans (by go_simp)
  have f0 : w1.frozen? ⟨w.heap.size, 0, none⟩ = false := (hb.frozen (by simp)).trans (by go_simp)
  have f1 : w1.frozen? ⟨w.heap.size, 1, none⟩ = false := (hb.frozen (by simp)).trans (by go_simp)
  have f2 : w1.frozen? ⟨w.heap.size, 2, none⟩ = false := (hb.frozen (by simp)).trans (by go_simp)
  have hsz : w.heap.size + 1 ≤ w1.heap.size := by have := hb.size; simpa using this
  have B1 := Lib.hid (show Below w.heap.size w w1 from B0.out.trans (hb.mono (by simp)))
  clear hb
  rcases h with ⟨hn, rfl⟩ | ⟨ns, a1, cap1, hn, rfl, hin⟩
  · have HS := Lib.hid (show seqKey l c = noKy by unfold seqKey; rw [hn])
    clear hn
    go_wp2
    (try simp only [Exit.inBlock, Exit.then])
    refine bodyPost_ret (v := noKy.val) ?_ rfl ⟨by rw [HS.out], ?_⟩
    · rw [results_cell1 rfl]
      go_simp
      rfl
    · exact ((B1.out.setCell (Nat.le_refl _) _).setCell (Nat.le_refl _) _).setCell (Nat.le_refl _) _
  · have MO := Lib.hid (modsAt ns a1 cap1 w1 (by have := numsP_len l ns hn; omega) hin)
    have HI := Lib.hid hin
    clear hin
    go_wp2_with fail
    (with_reducible refine MO.out.mono ?_)
    rintro e w2 ⟨rfl, hb2⟩
    replace r0 := (hb2.cell (p := ⟨w.heap.size, 0, none⟩) hsz).trans r0
    replace r1 := (hb2.cell (p := ⟨w.heap.size, 1, none⟩) hsz).trans r1
    replace r2 := (hb2.cell (p := ⟨w.heap.size, 2, none⟩) hsz).trans r2
    replace f0 := (hb2.frozen (p := ⟨w.heap.size, 0, none⟩) hsz).trans f0
    replace f1 := (hb2.frozen (p := ⟨w.heap.size, 1, none⟩) hsz).trans f1
    replace f2 := (hb2.frozen (p := ⟨w.heap.size, 2, none⟩) hsz).trans f2
    have hne1 : w.heap.size ≠ w2.heap.size := by have := hb2.size; omega
    have hne2 : w2.heap.size ≠ w.heap.size := by omega
    have g0 : ∀ o, (w2.alloc o).cell? ⟨w.heap.size, 0, none⟩ = some (.int .i64 0) := fun o => Lib.cell?_alloc_some _ r0
    have g1 : ∀ v o, ((w2.setCell ⟨w.heap.size, 0, none⟩ v).alloc o).cell? ⟨w.heap.size, 1, none⟩ = some (.int .i32 0) := fun v o => Lib.cell?_alloc_some _ (by go_simp)
    have g2 : ∀ v u o, (((w2.setCell ⟨w.heap.size, 0, none⟩ v).setCell ⟨w.heap.size, 1, none⟩ u).alloc o).cell? ⟨w.heap.size, 2, none⟩ = some (.int .i64 0) := fun v u o => Lib.cell?_alloc_some _ (by go_simp)
    have hlt2 : w.heap.size < w2.heap.size := by have := hb2.size; omega
    have k0 : ∀ o, (w2.alloc o).frozen? ⟨w.heap.size, 0, none⟩ = false := fun o => (((Below.refl w2.heap.size w2).alloc (Nat.le_refl _) o).frozen (p := ⟨w.heap.size, 0, none⟩) hlt2).trans f0
    have k1 : ∀ v o, ((w2.setCell ⟨w.heap.size, 0, none⟩ v).alloc o).frozen? ⟨w.heap.size, 1, none⟩ = false := fun v o => (((Below.refl w2.heap.size (w2.setCell ⟨w.heap.size, 0, none⟩ v)).alloc (by simp) o).frozen (p := ⟨w.heap.size, 1, none⟩) hlt2).trans (by go_simp)
    have k2 : ∀ v u o, (((w2.setCell ⟨w.heap.size, 0, none⟩ v).setCell ⟨w.heap.size, 1, none⟩ u).alloc o).frozen? ⟨w.heap.size, 2, none⟩ = false := fun v u o => (((Below.refl w2.heap.size ((w2.setCell ⟨w.heap.size, 0, none⟩ v).setCell ⟨w.heap.size, 1, none⟩ u)).alloc (by simp) o).frozen (p := ⟨w.heap.size, 2, none⟩) hlt2).trans (by go_simp)
    have B2 := Lib.hid (B1.out.trans (hb2.mono B1.out.size))
    have HI2 := Lib.hid (intsBelow HI.out hb2)
    have HNL := Lib.hid (show ns.length ≤ 1000 by have := numsP_len l ns hn; omega)
    clear hb2 MO hsz
    have HS := Lib.hid (show seqKey l c = (if c = 65 then ⟨6, 0, modsP ns⟩ else if c = 66 then ⟨7, 0, modsP ns⟩ else if c = 67 then ⟨9, 0, modsP ns⟩ else if c = 68 then ⟨8, 0, modsP ns⟩ else if c = 72 then ⟨10, 0, modsP ns⟩ else if c = 70 then ⟨11, 0, modsP ns⟩ else if c = 90 then ⟨3, 0, orOne (modsP ns)⟩ else if c = 126 then ⟨kindP ns, 0, modsP ns⟩ else ⟨0, 0, modsP ns⟩) by unfold seqKey; rw [hn])
    clear hn
    by_cases c65 : c = 65
    · subst c65
      have HX := Lib.hid (show seqKey l 65 = ⟨6, 0, modsP ns⟩ from HS.out)
      clear HS
      go_wp2
      (try simp only [Exit.inBlock, Exit.then])
      refine bodyPost_ret (v := Ky.val ⟨6, 0, modsP ns⟩) ?_ rfl ⟨by rw [HX.out], ?_⟩
      · rw [results_cell1 rfl]
        go_simp
        rfl
      · repeat (first | exact B2.out | refine Below.setCell ?_ (by first | exact Nat.le_refl _ | omega) _ | refine Below.alloc ?_ (by first | omega | (simp; omega)) _)
    by_cases c66 : c = 66
    · subst c66
      have HX := Lib.hid (show seqKey l 66 = ⟨7, 0, modsP ns⟩ from HS.out)
      clear HS
      go_wp2
      (try simp only [Exit.inBlock, Exit.then])
      refine bodyPost_ret (v := Ky.val ⟨7, 0, modsP ns⟩) ?_ rfl ⟨by rw [HX.out], ?_⟩
      · rw [results_cell1 rfl]
        go_simp
        rfl
      · repeat (first | exact B2.out | refine Below.setCell ?_ (by first | exact Nat.le_refl _ | omega) _ | refine Below.alloc ?_ (by first | omega | (simp; omega)) _)
    by_cases c67 : c = 67
    · subst c67
      have HX := Lib.hid (show seqKey l 67 = ⟨9, 0, modsP ns⟩ from HS.out)
      clear HS
      go_wp2
      (try simp only [Exit.inBlock, Exit.then])
      refine bodyPost_ret (v := Ky.val ⟨9, 0, modsP ns⟩) ?_ rfl ⟨by rw [HX.out], ?_⟩
      · rw [results_cell1 rfl]
        go_simp
        rfl
      · repeat (first | exact B2.out | refine Below.setCell ?_ (by first | exact Nat.le_refl _ | omega) _ | refine Below.alloc ?_ (by first | omega | (simp; omega)) _)
    by_cases c68 : c = 68
    · subst c68
      have HX := Lib.hid (show seqKey l 68 = ⟨8, 0, modsP ns⟩ from HS.out)
      clear HS
      go_wp2
      (try simp only [Exit.inBlock, Exit.then])
      refine bodyPost_ret (v := Ky.val ⟨8, 0, modsP ns⟩) ?_ rfl ⟨by rw [HX.out], ?_⟩
      · rw [results_cell1 rfl]
        go_simp
        rfl
      · repeat (first | exact B2.out | refine Below.setCell ?_ (by first | exact Nat.le_refl _ | omega) _ | refine Below.alloc ?_ (by first | omega | (simp; omega)) _)
    by_cases c72 : c = 72
    · subst c72
      have HX := Lib.hid (show seqKey l 72 = ⟨10, 0, modsP ns⟩ from HS.out)
      clear HS
      go_wp2
      (try simp only [Exit.inBlock, Exit.then])
      refine bodyPost_ret (v := Ky.val ⟨10, 0, modsP ns⟩) ?_ rfl ⟨by rw [HX.out], ?_⟩
      · rw [results_cell1 rfl]
        go_simp
        rfl
      · repeat (first | exact B2.out | refine Below.setCell ?_ (by first | exact Nat.le_refl _ | omega) _ | refine Below.alloc ?_ (by first | omega | (simp; omega)) _)
    by_cases c70 : c = 70
    · subst c70
      have HX := Lib.hid (show seqKey l 70 = ⟨11, 0, modsP ns⟩ from HS.out)
      clear HS
      go_wp2
      (try simp only [Exit.inBlock, Exit.then])
      refine bodyPost_ret (v := Ky.val ⟨11, 0, modsP ns⟩) ?_ rfl ⟨by rw [HX.out], ?_⟩
      · rw [results_cell1 rfl]
        go_simp
        rfl
      · repeat (first | exact B2.out | refine Below.setCell ?_ (by first | exact Nat.le_refl _ | omega) _ | refine Below.alloc ?_ (by first | omega | (simp; omega)) _)
    by_cases c90 : c = 90
    · subst c90
      have HX := Lib.hid (show seqKey l 90 = ⟨3, 0, orOne (modsP ns)⟩ from HS.out)
      have hm := modsP_le ns
      clear HS
      generalize modsP ns = m at *
      rcases (show m = 0 ∨ m = 1 ∨ m = 2 ∨ m = 3 ∨ m = 4 ∨ m = 5 ∨ m = 6 ∨ m = 7 by omega) with rfl | rfl | rfl | rfl | rfl | rfl | rfl | rfl
      · go_wp2
        (try simp only [Exit.inBlock, Exit.then])
        refine bodyPost_ret (v := Ky.val ⟨3, 0, orOne 0⟩) ?_ rfl ⟨by rw [HX.out], ?_⟩
        · rw [results_cell1 rfl]
          go_simp
          rfl
        · repeat (first | exact B2.out | refine Below.setCell ?_ (by first | exact Nat.le_refl _ | omega) _ | refine Below.alloc ?_ (by first | omega | (simp; omega)) _)
      · go_wp2
        (try simp only [Exit.inBlock, Exit.then])
        refine bodyPost_ret (v := Ky.val ⟨3, 0, orOne 1⟩) ?_ rfl ⟨by rw [HX.out], ?_⟩
        · rw [results_cell1 rfl]
          go_simp
          rfl
        · repeat (first | exact B2.out | refine Below.setCell ?_ (by first | exact Nat.le_refl _ | omega) _ | refine Below.alloc ?_ (by first | omega | (simp; omega)) _)
      · go_wp2
        (try simp only [Exit.inBlock, Exit.then])
        refine bodyPost_ret (v := Ky.val ⟨3, 0, orOne 2⟩) ?_ rfl ⟨by rw [HX.out], ?_⟩
        · rw [results_cell1 rfl]
          go_simp
          rfl
        · repeat (first | exact B2.out | refine Below.setCell ?_ (by first | exact Nat.le_refl _ | omega) _ | refine Below.alloc ?_ (by first | omega | (simp; omega)) _)
      · go_wp2
        (try simp only [Exit.inBlock, Exit.then])
        refine bodyPost_ret (v := Ky.val ⟨3, 0, orOne 3⟩) ?_ rfl ⟨by rw [HX.out], ?_⟩
        · rw [results_cell1 rfl]
          go_simp
          rfl
        · repeat (first | exact B2.out | refine Below.setCell ?_ (by first | exact Nat.le_refl _ | omega) _ | refine Below.alloc ?_ (by first | omega | (simp; omega)) _)
      · go_wp2
        (try simp only [Exit.inBlock, Exit.then])
        refine bodyPost_ret (v := Ky.val ⟨3, 0, orOne 4⟩) ?_ rfl ⟨by rw [HX.out], ?_⟩
        · rw [results_cell1 rfl]
          go_simp
          rfl
        · repeat (first | exact B2.out | refine Below.setCell ?_ (by first | exact Nat.le_refl _ | omega) _ | refine Below.alloc ?_ (by first | omega | (simp; omega)) _)
      · go_wp2
        (try simp only [Exit.inBlock, Exit.then])
        refine bodyPost_ret (v := Ky.val ⟨3, 0, orOne 5⟩) ?_ rfl ⟨by rw [HX.out], ?_⟩
        · rw [results_cell1 rfl]
          go_simp
          rfl
        · repeat (first | exact B2.out | refine Below.setCell ?_ (by first | exact Nat.le_refl _ | omega) _ | refine Below.alloc ?_ (by first | omega | (simp; omega)) _)
      · go_wp2
        (try simp only [Exit.inBlock, Exit.then])
        refine bodyPost_ret (v := Ky.val ⟨3, 0, orOne 6⟩) ?_ rfl ⟨by rw [HX.out], ?_⟩
        · rw [results_cell1 rfl]
          go_simp
          rfl
        · repeat (first | exact B2.out | refine Below.setCell ?_ (by first | exact Nat.le_refl _ | omega) _ | refine Below.alloc ?_ (by first | omega | (simp; omega)) _)
      · go_wp2
        (try simp only [Exit.inBlock, Exit.then])
        refine bodyPost_ret (v := Ky.val ⟨3, 0, orOne 7⟩) ?_ rfl ⟨by rw [HX.out], ?_⟩
        · rw [results_cell1 rfl]
          go_simp
          rfl
        · repeat (first | exact B2.out | refine Below.setCell ?_ (by first | exact Nat.le_refl _ | omega) _ | refine Below.alloc ?_ (by first | omega | (simp; omega)) _)
    by_cases c126 : c = 126
    · subst c126
      have HX := Lib.hid (show seqKey l 126 = ⟨kindP ns, 0, modsP ns⟩ from HS.out)
      have hl2 := Lib.hid hlt2
      clear HS
      have BA := Lib.hid (show Below w2.heap.size w2 (w2.alloc (Obj.cells #[.int .i64 0, .int .i32 0, .int .i64 (modsP ns)] 30)) from (Below.refl _ _).alloc (Nat.le_refl _) _)
      have KO := Lib.hid (kindAt ns a1 cap1 (w2.alloc (Obj.cells #[.int .i64 0, .int .i32 0, .int .i64 (modsP ns)] 30)) HNL.out (intsBelow HI2.out BA.out))
      replace r0 := (BA.out.cell (p := ⟨w.heap.size, 0, none⟩) hlt2).trans r0
      replace r1 := (BA.out.cell (p := ⟨w.heap.size, 1, none⟩) hlt2).trans r1
      replace r2 := (BA.out.cell (p := ⟨w.heap.size, 2, none⟩) hlt2).trans r2
      replace f0 := (BA.out.frozen (p := ⟨w.heap.size, 0, none⟩) hlt2).trans f0
      replace f1 := (BA.out.frozen (p := ⟨w.heap.size, 1, none⟩) hlt2).trans f1
      replace f2 := (BA.out.frozen (p := ⟨w.heap.size, 2, none⟩) hlt2).trans f2
      have R := Lib.hid (And.intro (And.intro r0 (And.intro r1 r2)) (And.intro f0 (And.intro f1 f2)))
      clear g0 g1 g2 k0 k1 k2 r0 r1 r2 f0 f1 f2
      go_wp2_with fail
      (with_reducible refine KO.out.mono ?_)
      rintro e w3 ⟨rfl, hb3⟩
      have s0 : w3.cell? ⟨w2.heap.size, 0, none⟩ = some (.int .i64 0) := (hb3.cell (by simp)).trans (by go_simp)
      have s1 : w3.cell? ⟨w2.heap.size, 1, none⟩ = some (.int .i32 0) := (hb3.cell (by simp)).trans (by go_simp)
      have s2 : w3.cell? ⟨w2.heap.size, 2, none⟩ = some (.int .i64 (modsP ns)) := (hb3.cell (by simp)).trans (by go_simp)
      have q0 : w3.frozen? ⟨w2.heap.size, 0, none⟩ = false := (hb3.frozen (by simp)).trans (by go_simp)
      have r0 := (hb3.cell (p := ⟨w.heap.size, 0, none⟩) (by have := hl2.out; simp; omega)).trans R.out.1.1
      have r1 := (hb3.cell (p := ⟨w.heap.size, 1, none⟩) (by have := hl2.out; simp; omega)).trans R.out.1.2.1
      have r2 := (hb3.cell (p := ⟨w.heap.size, 2, none⟩) (by have := hl2.out; simp; omega)).trans R.out.1.2.2
      have f0 := (hb3.frozen (p := ⟨w.heap.size, 0, none⟩) (by have := hl2.out; simp; omega)).trans R.out.2.1
      have f1 := (hb3.frozen (p := ⟨w.heap.size, 1, none⟩) (by have := hl2.out; simp; omega)).trans R.out.2.2.1
      have f2 := (hb3.frozen (p := ⟨w.heap.size, 2, none⟩) (by have := hl2.out; simp; omega)).trans R.out.2.2.2
      have B3 := Lib.hid (B2.out.trans ((BA.out.trans (hb3.mono (by simp))).mono B2.out.size))
      clear hb3 R KO BA
      go_wp2
      (try simp only [Exit.inBlock, Exit.then])
      refine bodyPost_ret (v := Ky.val ⟨kindP ns, 0, modsP ns⟩) ?_ rfl ⟨by rw [HX.out], ?_⟩
      · rw [results_cell1 rfl]
        go_simp
        rfl
      · repeat (first | exact B3.out | refine Below.setCell ?_ (by first | exact Nat.le_refl _ | (show w.heap.size ≤ w2.heap.size; omega)) _)
    have HX := Lib.hid (show seqKey l c = ⟨0, 0, modsP ns⟩ by rw [HS.out, if_neg c65, if_neg c66, if_neg c67, if_neg c68, if_neg c72, if_neg c70, if_neg c90, if_neg c126])
    have d65 : ((c : Int) == 65) = false := beq_eq_false_iff_ne.2 (by omega)
    have d66 : ((c : Int) == 66) = false := beq_eq_false_iff_ne.2 (by omega)
    have d67 : ((c : Int) == 67) = false := beq_eq_false_iff_ne.2 (by omega)
    have d68 : ((c : Int) == 68) = false := beq_eq_false_iff_ne.2 (by omega)
    have d72 : ((c : Int) == 72) = false := beq_eq_false_iff_ne.2 (by omega)
    have d70 : ((c : Int) == 70) = false := beq_eq_false_iff_ne.2 (by omega)
    have d90 : ((c : Int) == 90) = false := beq_eq_false_iff_ne.2 (by omega)
    have d126 : ((c : Int) == 126) = false := beq_eq_false_iff_ne.2 (by omega)
    clear HS c65 c66 c67 c68 c72 c70 c90 c126
    go_wp2
    (try simp only [Exit.inBlock, Exit.then])
    refine bodyPost_ret (v := Ky.val ⟨0, 0, modsP ns⟩) ?_ rfl ⟨by rw [HX.out], ?_⟩
    · rw [results_cell1 rfl]
      go_simp
      rfl
    · repeat (first | exact B2.out | refine Below.setCell ?_ (by first | exact Nat.le_refl _ | omega) _ | refine Below.alloc ?_ (by first | omega | (simp; omega)) _)
end Go.Proofs.YtlmfhdkpgpjbnaaDoor
