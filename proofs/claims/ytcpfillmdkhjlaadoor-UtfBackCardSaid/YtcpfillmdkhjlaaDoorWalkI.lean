/- The contract of the reference's First at any bytes that lie in memory. -/
import Derived.Test.YtcpfillmdkhjlaaDoorWalkH
namespace Go.Proofs.YtcpfillmdkhjlaaDoor
open Go Go.RowKit Go.Lib

/-- The first n bytes. -/
def pre (s : ByteArray) (n : Nat) : List Nat := (List.range n).map fun j => (s.get! j).toNat
theorem pre_length (s : ByteArray) (n : Nat) : (pre s n).length = n := by simp [pre]
theorem pre_bytes (s : ByteArray) (n : Nat) : ∀ x ∈ pre s n, x < 256 := by
  intro x hx
  simp only [pre, List.mem_map] at hx
  obtain ⟨j, _, rfl⟩ := hx
  exact (s.get! j).toNat_lt
theorem pre_cells (s : ByteArray) (n b off : Nat) (w : World) (hn : n ≤ s.size) (hc : ∀ j, j < s.size → w.cell? ⟨b, off + j, none⟩ = some (.int .u8 (s.get! j).toNat)) : ∀ (j x : Nat), (pre s n)[j]? = some x → w.cell? ⟨b, off + j, none⟩ = some (.int .u8 (x : Int)) := by
  intro j x hx
  simp only [pre, List.getElem?_map, Option.map_eq_some_iff] at hx
  obtain ⟨i, hi, rfl⟩ := hx
  have hj : j < n := by
    rcases Nat.lt_or_ge j n with h | h
    · exact h
    · rw [List.getElem?_eq_none (by simpa using h)] at hi; cases hi
  rw [List.getElem?_range hj] at hi
  cases hi
  exact hc j (by omega)

theorem whole_pre (s : ByteArray) (n b off cap : Nat) (w : World) (h1 : 1 ≤ n) (h4 : n ≤ 4) (hn : n ≤ s.size) (hc : ∀ j, j < s.size → w.cell? ⟨b, off + j, none⟩ = some (.int .u8 (s.get! j).toNat)) :
    Calls Tryd.prog 22 #[.slice (some ⟨b, off, none⟩) n cap] w fun e w' => e = .returned (.tuple #[.int .i32 (wholeL (pre s n)).1, .bool (wholeL (pre s n)).2]) ∧ Below w.heap.size w w' := by
  have h := whole_list (pre s n) (by rw [pre_length]; exact h1) (by rw [pre_length]; exact h4) (pre_bytes s n) b off cap w (pre_cells s n b off w hn hc)
  rwa [pre_length] at h

theorem begun_pre (s : ByteArray) (b off cap : Nat) (w : World) (h1 : 1 ≤ s.size) (h4 : s.size ≤ 3) (hbw : b < w.heap.size) (hc : ∀ j, j < s.size → w.cell? ⟨b, off + j, none⟩ = some (.int .u8 (s.get! j).toNat)) :
    Calls Tryd.prog 23 #[.slice (some ⟨b, off, none⟩) s.size cap] w fun e w' => e = .returned (.bool (begunL (pre s s.size))) ∧ Below w.heap.size w w' :=
  begun_list (pre s s.size) s.size (pre_length _ _) h1 h4 (pre_bytes _ _) b off cap w hbw (pre_cells s s.size b off w (Nat.le_refl _) hc)

/-- What the reference's First answers. -/
def firstL (s : ByteArray) : Int × Nat :=
  if 1 ≤ s.size ∧ (wholeL (pre s 1)).2 = true then ((wholeL (pre s 1)).1, 1)
  else if 2 ≤ s.size ∧ (wholeL (pre s 2)).2 = true then ((wholeL (pre s 2)).1, 2)
  else if 3 ≤ s.size ∧ (wholeL (pre s 3)).2 = true then ((wholeL (pre s 3)).1, 3)
  else if 4 ≤ s.size ∧ (wholeL (pre s 4)).2 = true then ((wholeL (pre s 4)).1, 4)
  else if s.size = 0 ∨ (s.size < 4 ∧ begunL (pre s s.size) = true) then (0, 0) else (65533, 1)

theorem ret_pair {k j : IntKind} {a b : Int} {c d : Int} (h1 : a = b) (h2 : c = d) : Ending.returned (.tuple #[.int k a, .int j c]) = .returned (.tuple #[.int k b, .int j d]) := by
  rw [h1, h2]

theorem firstL_at (s : ByteArray) (n : Nat) (h1 : 1 ≤ n) (h4 : n ≤ 4) (hn : n ≤ s.size) (hno : ∀ m, 1 ≤ m → m < n → (wholeL (pre s m)).2 = false) (h : (wholeL (pre s n)).2 = true) : firstL s = ((wholeL (pre s n)).1, n) := by
  unfold firstL
  rcases (show n = 1 ∨ n = 2 ∨ n = 3 ∨ n = 4 by omega) with rfl | rfl | rfl | rfl
  · rw [if_pos ⟨hn, h⟩]
  · rw [if_neg (by rw [hno 1 (by omega) (by omega)]; simp), if_pos ⟨hn, h⟩]
  · rw [if_neg (by rw [hno 1 (by omega) (by omega)]; simp), if_neg (by rw [hno 2 (by omega) (by omega)]; simp), if_pos ⟨hn, h⟩]
  · rw [if_neg (by rw [hno 1 (by omega) (by omega)]; simp), if_neg (by rw [hno 2 (by omega) (by omega)]; simp), if_neg (by rw [hno 3 (by omega) (by omega)]; simp), if_pos ⟨hn, h⟩]
theorem firstL_none (s : ByteArray) (hno : ∀ m, 1 ≤ m → m ≤ 4 → m ≤ s.size → (wholeL (pre s m)).2 = false) : firstL s = if s.size = 0 ∨ (s.size < 4 ∧ begunL (pre s s.size) = true) then (0, 0) else (65533, 1) := by
  have f : ∀ m, 1 ≤ m → m ≤ 4 → ¬ (m ≤ s.size ∧ (wholeL (pre s m)).2 = true) := fun m h1 h4 ⟨h, h'⟩ => by rw [hno m h1 h4 h] at h'; cases h'
  unfold firstL
  rw [if_neg (f 1 (by omega) (by omega)), if_neg (f 2 (by omega) (by omega)), if_neg (f 3 (by omega) (by omega)), if_neg (f 4 (by omega) (by omega))]

theorem refFirst_zero (a : Option Addr) (cap : Nat) (w : World) :
    Calls Tryd.prog 12 #[.slice a 0 cap] w fun e w' => e = .returned (.tuple #[.int .i32 0, .int .i64 0]) ∧ Below w.heap.size w w' := by
  go_enter Tryd.func12, Tryd.ntmps12
  go_wp2
  go_loopw [4] (fun i wr => i = .int .i64 1 ∧ wr = w) (fun _ _ => 0)
  case atStart => exact ⟨rfl, rfl⟩
  case round =>
    obtain ⟨rfl, rfl⟩ := hrel
    go_wp2
    go_ret2
    exact ⟨rfl, Below.refl _ _⟩

set_option maxHeartbeats 2000000 in
theorem refFirst_cells (s : ByteArray) (b off cap : Nat) (w : World) (h0 : 1 ≤ s.size) (hs : s.size ≤ 1099511627776) (hcap : s.size ≤ cap) (hbw : b < w.heap.size) (hc : ∀ j, j < s.size → w.cell? ⟨b, off + j, none⟩ = some (.int .u8 (s.get! j).toNat)) :
    Calls Tryd.prog 12 #[.slice (some ⟨b, off, none⟩) s.size cap] w fun e w' => e = .returned (.tuple #[.int .i32 (firstL s).1, .int .i64 (firstL s).2]) ∧ Below w.heap.size w w' := by
  have HC := Lib.hid hc
  clear hc
  go_enter Tryd.func12, Tryd.ntmps12
  go_wp2
  go_loopw [4] (fun i wr => ∃ n : Nat, 1 ≤ n ∧ n ≤ 5 ∧ n ≤ s.size + 1 ∧ i = .int .i64 n ∧ (∀ m, 1 ≤ m → m < n → (wholeL (pre s m)).2 = false) ∧ Below w.heap.size w wr) (fun i _ => 5 - (RowKit.intOf i).toNat)
  case atStart => exact ⟨1, by omega, by omega, by omega, rfl, fun m a b => by omega, Below.refl _ _⟩
  case round =>
    obtain ⟨n, h1, h5, hsz1, rfl, hno, hbel⟩ := hrel
    have HN := Lib.hid hno
    have HB := Lib.hid hbel
    have hbs := hbel.size
    have HC2 := Lib.hid (show ∀ j, j < s.size → wr.cell? ⟨b, off + j, none⟩ = some (.int .u8 (s.get! j).toNat) from fun j hj => (hbel.cell (by exact hbw)).trans (HC.out j hj))
    clear hno hbel
    by_cases hn : n ≤ 4 ∧ n ≤ s.size
    · obtain ⟨hn4, hns⟩ := hn
      have hn4' : (n : Int) ≤ 4 := by omega
      have hns' : (n : Int) ≤ (s.size : Int) := by omega
      have hnc' : (n : Int) ≤ (cap : Int) := by omega
      have W := Lib.hid (whole_pre s n b off cap wr h1 hn4 hns HC2.out)
      cases k1 : (wholeL (pre s n)).2
      · have K1 := Lib.hid k1
        go_wp2_with (go_at_call 22; refine W.out.mono ?_; rintro e w' ⟨rfl, hb'⟩)
        have HB' : Below w.heap.size w _ := HB.out.trans (Below.mono (by assumption) hbs)
        go_roundw
        case rel =>
          refine ⟨n + 1, by omega, by omega, by omega, by go_num, ?_, HB'⟩
          intro m m1 m2
          by_cases hm : m = n
          · rw [hm]; exact K1.out
          · exact HN.out m m1 (by omega)
        case measure => simp [RowKit.intOf]; omega
      · have E := Lib.hid (firstL_at s n h1 hn4 hns HN.out k1)
        go_wp2_with (go_at_call 22; refine W.out.mono ?_; rintro e w' ⟨rfl, hb'⟩)
        go_ret2
        exact ⟨ret_pair (by rw [E.out]) (by rw [E.out]), HB.out.trans (Below.mono (by assumption) hbs)⟩
    · have E := Lib.hid (firstL_none s fun m m1 m4 ms => HN.out m m1 (by omega))
      have hne : ((s.size : Int) == 0) = false := beq_eq_false_iff_ne.2 (by omega)
      by_cases h4 : s.size < 4
      · have hn4 : (n : Int) ≤ 4 := by omega
        have hns : ¬ (n : Int) ≤ (s.size : Int) := by omega
        have h4' : (s.size : Int) < 4 := by omega
        have W := Lib.hid (begun_pre s b off cap wr h0 (by omega) (by omega) HC2.out)
        cases k1 : begunL (pre s s.size)
        · rw [k1] at W
          have E' := Lib.hid (show firstL s = (65533, 1) by rw [E.out, if_neg (by rw [k1]; rintro (h | ⟨_, h⟩); (· omega); (· cases h))])
          clear k1
          go_wp2_with (go_at_call 23; refine W.out.mono ?_; rintro e w' ⟨rfl, hb'⟩)
          go_ret2
          exact ⟨ret_pair (by rw [E'.out]) (by rw [E'.out]; rfl), HB.out.trans (Below.mono (by assumption) hbs)⟩
        · rw [k1] at W
          have E' := Lib.hid (show firstL s = (0, 0) by rw [E.out, if_pos (Or.inr ⟨h4, k1⟩)])
          clear k1
          go_wp2_with (go_at_call 23; refine W.out.mono ?_; rintro e w' ⟨rfl, hb'⟩)
          go_ret2
          exact ⟨ret_pair (by rw [E'.out]) (by rw [E'.out]; rfl), HB.out.trans (Below.mono (by assumption) hbs)⟩
      · have hn4 : ¬ (n : Int) ≤ 4 := by omega
        have h4' : ¬ (s.size : Int) < 4 := by omega
        have E' := Lib.hid (show firstL s = (65533, 1) by rw [E.out, if_neg (by omega)])
        go_wp2
        go_ret2
        exact ⟨ret_pair (by rw [E'.out]) (by rw [E'.out]; rfl), HB.out⟩

/-- The reference's First at any bytes. -/
theorem refFirst (s : ByteArray) (a : Option Addr) (cap : Nat) (w : World) (hs : s.size ≤ 1099511627776) (hcap : s.size ≤ cap) (h : BytesIn s a w) :
    Calls Tryd.prog 12 #[.slice a s.size cap] w fun e w' => e = .returned (.tuple #[.int .i32 (firstL s).1, .int .i64 (firstL s).2]) ∧ Below w.heap.size w w' := by
  by_cases h0 : s.size = 0
  · have e : firstL s = (0, 0) := by
      rw [firstL_none s (fun m m1 m4 ms => by omega), if_pos (Or.inl h0)]
    rw [h0, e]
    exact refFirst_zero a cap w
  · rcases h with h' | ⟨b, off, rfl, hlt, hc⟩
    · exact absurd h' h0
    · exact refFirst_cells s b off cap w (by omega) hs hcap hlt hc
end Go.Proofs.YtcpfillmdkhjlaaDoor
