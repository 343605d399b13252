/- The contracts of utf8.FullRune and utf.First at any bytes, and that the document's examples hold. Conditions: both tables of unicode/utf8 hold what their initialisers lay. -/
import Derived.Test.YtcpfillmdkhjlaaDoorWalkC
namespace Go.Proofs.YtcpfillmdkhjlaaDoor
open Go Go.RowKit Go.Lib

/-- Bytes that lie in memory. -/
def BytesIn (s : ByteArray) (a : Option Addr) (w : World) : Prop :=
  s.size = 0 ∨ ∃ b off, a = some ⟨b, off, none⟩ ∧ b < w.heap.size ∧ ∀ j, j < s.size → w.cell? ⟨b, off + j, none⟩ = some (.int .u8 (s.get! j).toNat)

theorem BytesIn.below {s : ByteArray} {a : Option Addr} {w w' : World} (h : BytesIn s a w) (hb : Below w.heap.size w w') : BytesIn s a w' := by
  rcases h with h0 | ⟨b, off, rfl, hlt, hc⟩
  · exact .inl h0
  · exact .inr ⟨b, off, rfl, Nat.lt_of_lt_of_le hlt hb.size, fun j hj => (hb.cell (by exact hlt)).trans (hc j hj)⟩

/-- utf8.FullRune at any bytes. -/
theorem fullRune (s : ByteArray) (a : Option Addr) (cap : Nat) (w : World) (hs : s.size ≤ 9223372036854775807) (hT : Lib.Utf8Tabs 0 1 w) (h : BytesIn s a w) :
    Calls Tryd.prog 20 #[.slice a s.size cap] w fun e w' => e = .returned (.bool (fullN s.size (s.get! 0).toNat (s.get! 1).toNat (s.get! 2).toNat)) ∧ Below w.heap.size w w' := by
  rcases h with h0 | ⟨b, off, rfl, hlt, hc⟩
  · rw [h0]
    exact full_zero a cap w
  · by_cases h0 : s.size = 0
    · rw [h0]
      exact full_zero _ cap w
    · have l0 := (s.get! 0).toNat_lt
      have l1 := (s.get! 1).toNat_lt
      have l2 := (s.get! 2).toNat_lt
      have c0 := hc 0 (by omega)
      rw [Nat.add_zero] at c0
      have hF := hT.1 (s.get! 0).toNat (by omega)
      have hFl : firstT (s.get! 0).toNat < 256 := by
        rcases Lib.firstT_cases (s.get! 0).toNat with hX | hX | hX | hX | hX | hX | hX | hX | hX <;> omega
      have hF8 : firstT (s.get! 0).toNat % 8 ≤ 4 := by
        rcases Lib.firstT_cases (s.get! 0).toNat with hX | hX | hX | hX | hX | hX | hX | hX | hX <;> omega
      by_cases hge : firstT (s.get! 0).toNat % 8 ≤ s.size
      · have e : fullN s.size (s.get! 0).toNat (s.get! 1).toNat (s.get! 2).toNat = true := by
          unfold fullN; rw [if_neg h0, if_pos hge]
        rw [e]
        exact full_ge b off s.size cap _ _ w (by omega) (by omega) (by omega) c0 hFl (by omega) hF
      · obtain ⟨A0, A1⟩ := hT.2 (firstT (s.get! 0).toNat / 16) (by omega)
        rw [Nat.mul_comm] at A0 A1
        have e : fullN s.size (s.get! 0).toNat (s.get! 1).toNat (s.get! 2).toNat = if 1 < s.size ∧ ((s.get! 1).toNat < accLo (firstT (s.get! 0).toNat / 16) ∨ accHi (firstT (s.get! 0).toNat / 16) < (s.get! 1).toNat) then true else decide (2 < s.size ∧ ((s.get! 2).toNat < 128 ∨ 191 < (s.get! 2).toNat)) := by
          unfold fullN; rw [if_neg h0, if_neg hge]
        rw [e]
        clear e
        rcases (show s.size = 1 ∨ s.size = 2 ∨ s.size = 3 by omega) with h1 | h1 | h1
        · rw [h1] at hge ⊢
          exact full_one b off cap _ _ _ _ _ w (by omega) c0 hlt hFl (by omega) (by omega) (by omega) hF A0 A1
        · have c1 := hc 1 (by omega)
          rw [h1] at hge ⊢
          by_cases d0 : (s.get! 1).toNat < accLo (firstT (s.get! 0).toNat / 16)
          · rw [if_pos ⟨by omega, .inl d0⟩]
            exact full_two_lo b off cap _ _ _ _ _ _ w (by omega) c0 hlt hFl (by omega) (by omega) (by omega) hF A0 A1 (by omega) c1 (decide_eq_true d0)
          · by_cases d1 : accHi (firstT (s.get! 0).toNat / 16) < (s.get! 1).toNat
            · rw [if_pos ⟨by omega, .inr d1⟩]
              exact full_two_hi b off cap _ _ _ _ _ _ w (by omega) c0 hlt hFl (by omega) (by omega) (by omega) hF A0 A1 (by omega) c1 (decide_eq_false d0) (decide_eq_true d1)
            · rw [if_neg (by omega)]
              exact full_two_in b off cap _ _ _ _ _ _ w (by omega) c0 hlt hFl (by omega) (by omega) (by omega) hF A0 A1 (by omega) c1 (decide_eq_false d0) (decide_eq_false d1)
        · have c1 := hc 1 (by omega)
          have c2 := hc 2 (by omega)
          rw [h1] at hge ⊢
          by_cases d0 : (s.get! 1).toNat < accLo (firstT (s.get! 0).toNat / 16)
          · rw [if_pos ⟨by omega, .inl d0⟩]
            exact full_three_lo b off cap _ _ _ _ _ _ w (by omega) c0 hlt hFl (by omega) (by omega) (by omega) hF A0 A1 (by omega) c1 (decide_eq_true d0)
          · by_cases d1 : accHi (firstT (s.get! 0).toNat / 16) < (s.get! 1).toNat
            · rw [if_pos ⟨by omega, .inr d1⟩]
              exact full_three_hi b off cap _ _ _ _ _ _ w (by omega) c0 hlt hFl (by omega) (by omega) (by omega) hF A0 A1 (by omega) c1 (decide_eq_false d0) (decide_eq_true d1)
            · rw [if_neg (by omega)]
              have e : decide (2 < 3 ∧ ((s.get! 2).toNat < 128 ∨ 191 < (s.get! 2).toNat)) = decide ((s.get! 2).toNat < 128 ∨ 191 < (s.get! 2).toNat) := by
                rw [Bool.eq_iff_iff]; simp
              rw [e]
              exact full_three_in b off cap _ _ _ _ _ _ _ w (by omega) c0 hlt hFl (by omega) (by omega) (by omega) hF A0 A1 (by omega) c1 (by omega) c2 (decide_eq_false d0) (decide_eq_false d1)

/-- utf8.DecodeRune, at this program: the library's contract. -/
theorem decodeRune (s : ByteArray) (b off cap : Nat) (w : World) (hT : Lib.Utf8Tabs 0 1 w)
    (hp : ∀ j, j < s.size → w.cell? ⟨b, off + j, none⟩ = some (.int .u8 (s.get! j).toNat)) :
    Calls Tryd.prog 21 #[.slice (some ⟨b, off, none⟩) s.size cap] w fun e w' => e = .returned (.tuple #[.int .i32 (Lib.decodeGo s).1, .int .i64 (Lib.decodeGo s).2]) ∧ Below w.heap.size w w' :=
  Any7.utf8_DecodeRune Tryd.lays732 s b off cap w hT hp

/-- What First answers. -/
def firstGo (s : ByteArray) : Nat × Nat := if fullN s.size (s.get! 0).toNat (s.get! 1).toNat (s.get! 2).toNat = true then Lib.decodeGo s else (0, 0)

theorem first (s : ByteArray) (a : Option Addr) (cap : Nat) (w : World) (hs : s.size ≤ 9223372036854775807) (hT : Lib.Utf8Tabs 0 1 w) (h : BytesIn s a w) :
    Calls Tryd.prog 11 #[.slice a s.size cap] w fun e w' => e = .returned (.tuple #[.int .i32 (firstGo s).1, .int .i64 (firstGo s).2]) ∧ Below w.heap.size w w' := by
  have hf := fullRune s a cap w hs hT h
  unfold firstGo
  cases hb : fullN s.size (s.get! 0).toNat (s.get! 1).toNat (s.get! 2).toNat
  · rw [hb] at hf
    have HF := Lib.hid hf
    clear hf hb
    rw [if_neg (by simp)]
    go_enter Tryd.func11, Tryd.ntmps11
    go_wp2_with (go_at_call 20; refine (HF.out).mono ?_; rintro e w' ⟨rfl, hb⟩)
    go_ret2
    exact ⟨rfl, ‹_›⟩
  · rw [hb] at hf
    have h0 : s.size ≠ 0 := by
      intro h0
      rw [h0] at hb
      simp [fullN] at hb
    have HF := Lib.hid hf
    clear hf hb
    rw [if_pos rfl]
    rcases h with h0' | ⟨b, off, rfl, hlt, hc⟩
    · exact absurd h0' h0
    · generalize hd : Lib.decodeGo s = d
      obtain ⟨r, k⟩ := d
      have HD := Lib.hid hd
      have HC := Lib.hid hc
      have HT := Lib.hid hT
      clear hd hc hT h0
      go_enter Tryd.func11, Tryd.ntmps11
      go_wp2_with (go_at_call 20; refine (HF.out).mono ?_; rintro e w1 ⟨rfl, hb1⟩)
      refine (decodeRune s b off cap w1 (Utf8Tabs_below HT.out hb1) (fun j hj => (hb1.cell (by exact hlt)).trans (HC.out j hj))).mono ?_
      rintro e w2 ⟨rfl, hb2⟩
      rw [HD.out]
      have hb3 := hb1.trans (hb2.mono hb1.size)
      clear hb1 hb2
      go_wp2
      go_ret2
      exact ⟨rfl, hb3⟩

theorem get!_lit (l : List UInt8) (j : Nat) : (⟨l.toArray⟩ : ByteArray).get! j = l.getD j 0 := by
  simp [ByteArray.get!, List.getD]
  rfl
end Go.Proofs.YtcpfillmdkhjlaaDoor
