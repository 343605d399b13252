/- The contracts of Slice of nil, Start. -/
import Derived.Test.YtlijkejadjkbcaaRopeB
namespace Go.Proofs.Ytlijkejadjkbcaa
open Go Go.RowKit

theorem between_nil (w : World) :
    Calls Try.prog 28 #[.pointer none, .int .i64 0, .int .i64 0] w fun e w' => e = .returned (.bool true) ∧ Below w.heap.size w w' := by
  have LN := Lib.hid (len_nil w)
  go_enter Try.func28, Try.ntmps28
  go_wp2_with fail
  (with_reducible refine LN.out.mono ?_)
  rintro e w' ⟨rfl, hb⟩
  go_wp2
  go_ret
  exact ⟨rfl, hb⟩

theorem slice_nil (w : World) :
    Calls Try.prog 13 #[.pointer none, .int .i64 0, .int .i64 0] w fun e w' => ∃ v, e = .returned (.tuple #[v, .int .i64 0]) ∧ w'.ownsRow w.heap.size 21 1 v 0 [] ∧ Below w.heap.size w w' := by
  obtain ⟨i1, hi1, hy0, hy1, hy2⟩ := info_parts Try.info21
  have BT := Lib.hid (between_nil w)
  go_enter Try.func13, Try.ntmps13
  go_wp2_with fail
  (with_reducible refine BT.out.mono ?_)
  rintro e w1 ⟨rfl, b1⟩
  have B1 := Lib.hid b1
  clear b1
  have LN := Lib.hid (list_nil w1)
  have CU := Lib.hid (split_none none 0 0 w1)
  go_wp2_with fail
  (with_reducible refine LN.out.mono ?_)
  rintro e w' ⟨rfl, rfl⟩
  go_wp2_with fail
  (with_reducible refine CU.out.mono ?_)
  rintro e w' ⟨rfl, rfl⟩
  go_wp2_with fail
  (with_reducible refine CU.out.mono ?_)
  rintro e w' ⟨rfl, rfl⟩
  go_wp2_with (at_make; refine wpList_make_own _ rfl _ _ 22 rfl w1.heap.size 21 i1 (.int .i32 0) 1 Try.underlying22 hi1 hy0 hy1 .i64 .i64 _ 0 rfl rfl rfl (by omega) (by unfold maxLen; omega) (Nat.le_refl _) ?_)
  intro w4 own4 gr4
  have O4 := Lib.hid own4
  have B4 := Lib.hid (show Below w1.heap.size w1 w4 from (Below.refl _ _).grown gr4 (Nat.le_refl _) (fun k hk => by cases hk))
  clear own4 gr4
  go_wp2_with fail
  go_loopw [12, 41] (fun v i wr => v = .slice (some ⟨w1.heap.size, 0, none⟩) 0 0 ∧ i = .int .i64 0 ∧ wr = w4) (fun _ _ _ => 0)
  case atStart => exact ⟨rfl, rfl, rfl⟩
  case round =>
    obtain ⟨rfl, rfl, rfl⟩ := hrel
    go_wp2
    go_ret2
    exact ⟨_, rfl, own_mono O4.out B1.out.size, B1.out.trans (B4.out.mono B1.out.size)⟩

theorem start_no (rb : Nat) (ns : List Nd) (x : Int) (w : World) (h : RopeAt w rb ns) (hp : ¬ (0 ≤ x ∧ x ≤ brk (text ns))) :
    Calls Try.prog 20 #[.pointer (some ⟨rb, 0, none⟩), .int .i64 x] w fun e w' => e = .returned (.tuple #[.int .i64 0, .int .i64 1]) ∧ Below w.heap.size w w' := by
  have LI := Lib.hid (lines rb ns w h)
  have hbk := Nat.le_trans (brk_le (text ns)) h.le
  clear h
  obtain ⟨B, hB⟩ : ∃ B, B = brk (text ns) := ⟨_, rfl⟩
  rw [← hB] at hp hbk
  have LI' := LI.out
  rw [← hB] at LI'
  have LL := Lib.hid LI'
  clear LI LI' hB
  by_cases h0 : x < 0
  · go_enter Try.func20, Try.ntmps20
    go_wp2
    go_ret2
    exact ⟨rfl, Below.refl _ _⟩
  · have h1 : (B : Int) + 1 ≤ x := by omega
    go_enter Try.func20, Try.ntmps20
    go_wp2_with fail
    (with_reducible refine LL.out.mono ?_)
    rintro e w1 ⟨rfl, b1⟩
    go_wp2
    go_ret2
    exact ⟨rfl, b1⟩

set_option maxHeartbeats 2000000 in
theorem start_yes (rb : Nat) (ns : List Nd) (q : Nat) (w : World) (h : RopeAt w rb ns) (hq : q ≤ brk (text ns)) :
    Calls Try.prog 20 #[.pointer (some ⟨rb, 0, none⟩), .int .i64 q] w fun e w' => e = .returned (.tuple #[.int .i64 (beh (text ns) q), .int .i64 0]) ∧ Below w.heap.size w w' := by
  have LI := Lib.hid (lines rb ns w h)
  have HR := Lib.hid h
  have hle := h.le
  have hbk := Nat.le_trans (brk_le (text ns)) h.le
  have HQ := Lib.hid hq
  clear h
  obtain ⟨B, hB⟩ : ∃ B, B = brk (text ns) := ⟨_, rfl⟩
  rw [← hB] at hq hbk
  have LI' := LI.out
  rw [← hB] at LI'
  have LL := Lib.hid LI'
  have HB := Lib.hid hB
  clear LI LI' hB
  have hq1 : ¬ (B : Int) + 1 ≤ (q : Int) := by omega
  go_enter Try.func20, Try.ntmps20
  go_wp2_with fail
  (with_reducible refine LL.out.mono ?_)
  rintro e w1 ⟨rfl, b1⟩
  have B1 := Lib.hid b1
  have R1 := Lib.hid (HR.out.below b1)
  clear b1
  obtain ⟨a, n, cap, _, hN, hL⟩ := R1.out.opened
  have HL := Lib.hid hL
  have hn : n ≤ 2000 := by
    have := text_len hN.chunks
    have := hN.len
    omega
  have NN := Lib.hid hN
  clear hN hL
  go_wp2_with fail
  (with_reducible refine HL.out.mono ?_)
  rintro e w' ⟨rfl, rfl⟩
  go_wp2_with fail
  go_loopw [1, 6, 20] (fun l v i wr => ∃ k p A : Nat, k ≤ n ∧ l = .int .i64 p ∧ v = .int .i64 A ∧ i = .int .i64 k ∧ A + beh (text (ns.drop k)) p = beh (text ns) q ∧ p ≤ brk (text (ns.drop k)) ∧ A + (text (ns.drop k)).length ≤ 2000 ∧ Below w1.heap.size w1 wr) (fun _ _ i _ => n - (intOf i).toNat)
  case atStart => exact ⟨0, q, 0, Nat.zero_le _, rfl, rfl, rfl, by simp, by have := HB.out; simp; omega, by simpa using hle, Below.refl _ _⟩
  case round =>
    obtain ⟨k, p, A, hk, rfl, rfl, rfl, he, hp, hA, hbel⟩ := hrel
    have hp5 : p ≤ 2000 := by have := brk_le (text (ns.drop k)); omega
    have hA5 : A ≤ 2000 := by omega
    by_cases hltk : k < n
    · obtain ⟨z, hz⟩ : ∃ z, ns[k]? = some z := ⟨ns[k]'(by have := NN.out.len; omega), by simp⟩
      rcases NN.out.row with h0 | ⟨b, off, rfl, hlt, hne, hc⟩
      · omega
      have Z := Lib.hid ((NN.out.chunks z (List.mem_of_getElem? hz)).below' hbel)
      obtain ⟨d0, d1, d2, d3⟩ := nodeCells hc k z hz
      have e0 := (hbel.cell (by exact hlt)).trans d0
      have e1 := (hbel.cell (by exact hlt)).trans d1
      have e2 := (hbel.cell (by exact hlt)).trans d2
      have e3 := (hbel.cell (by exact hlt)).trans d3
      have hdr : text (ns.drop k) = z.cs ++ text (ns.drop (k + 1)) := by
        obtain ⟨hlt', rfl⟩ := List.getElem?_eq_some_iff.1 hz
        rw [List.drop_eq_getElem_cons hlt', text_cons]
      rw [hdr] at he hp hA
      rw [beh_append] at he
      rw [brk_append] at hp
      rw [List.length_append] at hA
      have hbz := brk_le z.cs
      have hzl := Z.out.le
      have hbh := beh_le z.cs p
      have HE := Lib.hid he
      have BB := Lib.hid hbel
      have hwsz := hbel.size
      obtain ⟨cl, hcl⟩ : ∃ cl, cl = z.cs.length := ⟨_, rfl⟩
      have CL := Lib.hid hcl
      obtain ⟨bz, hbzz⟩ : ∃ cl, cl = brk z.cs := ⟨_, rfl⟩
      have BZ := Lib.hid hbzz
      rw [← hcl] at e0 e1 hzl hbz hA hbh
      rw [← hbzz] at e2 hp hbz
      have HD := Lib.hid hdr
      clear d0 d1 d2 d3 hbel hc hz he hcl hbzz hdr
      by_cases hpz : p ≤ bz
      · have BH := Lib.hid (fun o => behind z.g z.o cl cl p z.cs (wr.alloc o) (by omega) (by omega) CL.out.symm (Z.out.alloc o).cell)
        have HE2 := Lib.hid (show A + beh z.cs p = beh (text ns) q by
          have h1 := HE.out
          rw [if_pos (by have := BZ.out; omega)] at h1
          exact h1)
        obtain ⟨m, hm⟩ : ∃ m, m = beh z.cs p := ⟨_, rfl⟩
        have BH' := BH.out
        rw [← hm] at BH' hbh
        have BH2 := Lib.hid BH'
        have M := Lib.hid hm
        clear hm BH' BH HE
        go_wp2_with fail
        (with_reducible refine (BH2.out _).mono ?_)
        rintro e w' ⟨rfl, rfl⟩
        go_wp2
        go_ret2
        refine ⟨?_, B1.out.trans ((BB.out.alloc (by omega) _).mono B1.out.size)⟩
        have := HE2.out
        rw [← M.out] at this
        rw [← this]
        simp
      · have HE2 := Lib.hid (show A + cl + beh (text (ns.drop (k + 1))) (p - bz) = beh (text ns) q by
          have h1 := HE.out
          rw [if_neg (by have := BZ.out; omega), ← BZ.out, ← CL.out] at h1
          omega)
        clear HE
        go_wp2
        go_roundw
        case rel =>
          refine ⟨k + 1, p - bz, A + cl, by omega, ?_, by go_num, by go_num, HE2.out, by omega, by omega, BB.out.alloc (by omega) _⟩
          congr 1; omega
        case measure => simp [intOf]; omega
    · have E := Lib.hid (show A = beh (text ns) q by
        rw [← he, List.drop_of_length_le (by have := NN.out.len; omega), text_nil, beh_nil]; omega)
      clear he
      go_wp2
      go_ret2
      exact ⟨by rw [← E.out]; rfl, B1.out.trans (hbel.mono B1.out.size)⟩
end Go.Proofs.Ytlijkejadjkbcaa
