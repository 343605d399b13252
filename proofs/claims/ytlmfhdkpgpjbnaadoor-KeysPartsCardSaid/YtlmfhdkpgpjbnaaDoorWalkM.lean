/- The contracts of modsOf and kindOf. Conditions: the numbers lie in memory. -/
import Derived.Test.YtlmfhdkpgpjbnaaDoorWalkU
namespace Go.Proofs.YtlmfhdkpgpjbnaaDoor
open Go Go.RowKit Go.Lib

/-- Numbers that lie in memory. -/
def IntsIn (l : List Int) (a : Option Addr) (w : World) : Prop :=
  l.length = 0 ∨ ∃ b off, a = some ⟨b, off, none⟩ ∧ b < w.heap.size ∧ ∀ j, j < l.length → w.cell? ⟨b, off + j, none⟩ = some (.int .i64 (l.getD j 0))

theorem ret_int {a b : Int} (h : a = b) : Ending.returned (Value.int .i64 a) = Ending.returned (Value.int .i64 b) := by rw [h]

theorem modsAt (l : List Int) (a : Option Addr) (cap : Nat) (w : World) (hs : l.length ≤ 1000) (h : IntsIn l a w) :
    Calls Tryd.prog 20 #[.slice a l.length cap] w fun e w' => e = .returned (.int .i64 (modsP l)) ∧ Below w.heap.size w w' := by
  by_cases h2 : l.length < 2
  · have h2' : (l.length : Int) < 2 := by omega
    unfold modsP
    rw [if_pos h2]
    go_enter Tryd.func20, Tryd.ntmps20
    go_wp2
    go_ret
    exact ⟨rfl, Below.refl _ _⟩
  · rcases h with h0 | ⟨b, off, rfl, hlt, hc⟩
    · omega
    · have c1 := hc 1 (by omega)
      have h2' : ¬ (l.length : Int) < 2 := by omega
      have hl : (1 : Int) < (l.length : Int) := by omega
      unfold modsP
      rw [if_neg h2]
      generalize l.getD 1 0 = x at *
      clear hc h2
      by_cases k1 : x < 2
      · rw [if_pos k1]
        go_enter Tryd.func20, Tryd.ntmps20
        go_wp2
        go_ret
        exact ⟨rfl, Below.refl _ _⟩
      · rw [if_neg k1]
        by_cases k2 : 8 < x
        · rw [if_pos k2]
          go_enter Tryd.func20, Tryd.ntmps20
          go_wp2
          go_ret
          exact ⟨rfl, Below.refl _ _⟩
        · rw [if_neg k2]
          go_enter Tryd.func20, Tryd.ntmps20
          go_wp2
          go_ret
          exact ⟨ret_int (by go_num), Below.refl _ _⟩

theorem kindAt (l : List Int) (a : Option Addr) (cap : Nat) (w : World) (hs : l.length ≤ 1000) (h : IntsIn l a w) :
    Calls Tryd.prog 21 #[.slice a l.length cap] w fun e w' => e = .returned (.int .i64 (kindP l)) ∧ Below w.heap.size w w' := by
  by_cases h2 : l.length = 0
  · unfold kindP
    rw [if_pos h2, h2]
    go_enter Tryd.func21, Tryd.ntmps21
    go_wp2
    go_ret
    exact ⟨rfl, Below.refl _ _⟩
  · rcases h with h0 | ⟨b, off, rfl, hlt, hc⟩
    · omega
    · have c1 := hc 0 (by omega)
      rw [Nat.add_zero] at c1
      have h2' : ((l.length : Int) == 0) = false := beq_eq_false_iff_ne.2 (by omega)
      have hl : (0 : Int) < (l.length : Int) := by omega
      have e : kindP l = (if l.getD 0 0 = 1 ∨ l.getD 0 0 = 7 then 10 else if l.getD 0 0 = 3 then 5 else if l.getD 0 0 = 4 ∨ l.getD 0 0 = 8 then 11 else 0) := by unfold kindP; rw [if_neg h2]
      generalize kindP l = K at *
      generalize l.getD 0 0 = x at *
      clear hc h2
      rcases (show x = 1 ∨ x = 7 ∨ x = 3 ∨ x = 4 ∨ x = 8 ∨ (x ≠ 1 ∧ x ≠ 7 ∧ x ≠ 3 ∧ x ≠ 4 ∧ x ≠ 8) by omega) with rfl | rfl | rfl | rfl | rfl | ⟨n1, n2, n3, n4, n5⟩
      · obtain rfl : K = 10 := e
        go_enter Tryd.func21, Tryd.ntmps21
        go_wp2
        go_ret
        exact ⟨rfl, Below.refl _ _⟩
      · obtain rfl : K = 10 := e
        go_enter Tryd.func21, Tryd.ntmps21
        go_wp2
        go_ret
        exact ⟨rfl, Below.refl _ _⟩
      · obtain rfl : K = 5 := e
        go_enter Tryd.func21, Tryd.ntmps21
        go_wp2
        go_ret
        exact ⟨rfl, Below.refl _ _⟩
      · obtain rfl : K = 11 := e
        go_enter Tryd.func21, Tryd.ntmps21
        go_wp2
        go_ret
        exact ⟨rfl, Below.refl _ _⟩
      · obtain rfl : K = 11 := e
        go_enter Tryd.func21, Tryd.ntmps21
        go_wp2
        go_ret
        exact ⟨rfl, Below.refl _ _⟩
      · obtain rfl : K = 0 := e.trans (by rw [if_neg (by omega), if_neg n3, if_neg (by omega)])
        have m1 : (x == 1) = false := by simpa using n1
        have m2 : (x == 7) = false := by simpa using n2
        have m3 : (x == 3) = false := by simpa using n3
        have m4 : (x == 4) = false := by simpa using n4
        have m5 : (x == 8) = false := by simpa using n5
        clear e n1 n2 n3 n4 n5
        go_enter Tryd.func21, Tryd.ntmps21
        go_wp2
        go_ret
        exact ⟨rfl, Below.refl _ _⟩

end Go.Proofs.YtlmfhdkpgpjbnaaDoor
