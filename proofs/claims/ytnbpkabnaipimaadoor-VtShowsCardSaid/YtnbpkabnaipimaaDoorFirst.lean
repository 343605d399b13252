/- The contracts of utf8.FullRune and utf.First at any bytes that lie in memory. Conditions: both tables of unicode/utf8 hold what their initialisers lay. -/
import Derived.Test.YtnbpkabnaipimaaDoorFirstU
import Derived.Test.YtnbpkabnaipimaaDoorWidth
import Derived.Test.YtnbpkabnaipimaaDoorShelf
import Derived.Shelf.Unicode.DecodeSlow
import Derived.WalkKit
import Derived.Deep.QuietTactic
import Derived.BigQuiet
import Derived.WalkSmall
namespace Go.Proofs.YtnbpkabnaipimaaDoor
open Go Go.RowKit Go.Lib

theorem full_zero (a : Option Addr) (cap : Nat) (w : World) :
    Calls Tryd.prog 40 #[.slice a 0 cap] w fun e w' => e = .returned (.bool false) ∧ Below w.heap.size w w' := by
  go_enter Tryd.func40, Tryd.ntmps40
  go_wp2
  go_ret
  exact ⟨rfl, Below.refl _ _⟩

theorem full_ge (b off n cap x0 F : Nat) (w : World) (l0 : x0 < 256) (hn : 0 < n) (hn0 : (n : Int) ≤ 9223372036854775807)
    (hs0 : w.cell? ⟨b, off, none⟩ = some (.int .u8 x0))
    (hF : F < 256) (hsz : (F : Int) % 8 ≤ (n : Int))
    (hc0 : w.cell? ⟨2, x0, none⟩ = some (.int .u8 F)) :
    Calls Tryd.prog 40 #[.slice (some ⟨b, off, none⟩) n cap] w fun e w' => e = .returned (.bool true) ∧ Below w.heap.size w w' := by
  have hne : ((n : Int) == 0) = false := by simp; omega
  have hn' : (0 : Int) < (n : Int) := by omega
  go_enter Tryd.func40, Tryd.ntmps40
  go_wp2
  go_ret
  exact ⟨rfl, Below.refl _ _⟩

theorem full_one (b off cap x0  F i lo hi : Nat) (w : World) (l0 : x0 < 256)
    (hs0 : w.cell? ⟨b, off, none⟩ = some (.int .u8 x0)) (_hb : b < w.heap.size)
    (hF : F < 256) (hsz : (1 : Int) < (F : Int) % 8) (hi0 : (F : Int) / 16 = (i : Int)) (hi1 : i < 16)
    (hc0 : w.cell? ⟨2, x0, none⟩ = some (.int .u8 F))
    (ha0 : w.cell? ⟨3, i * 2, none⟩ = some (.int .u8 lo)) (ha1 : w.cell? ⟨3, i * 2 + 1, none⟩ = some (.int .u8 hi)) :
    Calls Tryd.prog 40 #[.slice (some ⟨b, off, none⟩) 1 cap] w fun e w' => e = .returned (.bool false) ∧ Below w.heap.size w w' := by
  go_enter Tryd.func40, Tryd.ntmps40
  go_wp2_with fail
  go_quiet (fail)
  go_wp2
  go_ret
  exact ⟨rfl, below_drewN ((Below.refl _ _).alloc (Nat.le_refl _) _) _⟩

theorem full_two_lo (b off cap x0 x1 F i lo hi : Nat) (w : World) (l0 : x0 < 256)
    (hs0 : w.cell? ⟨b, off, none⟩ = some (.int .u8 x0)) (hb : b < w.heap.size)
    (hF : F < 256) (hsz : (2 : Int) < (F : Int) % 8) (hi0 : (F : Int) / 16 = (i : Int)) (hi1 : i < 16)
    (hc0 : w.cell? ⟨2, x0, none⟩ = some (.int .u8 F))
    (ha0 : w.cell? ⟨3, i * 2, none⟩ = some (.int .u8 lo)) (ha1 : w.cell? ⟨3, i * 2 + 1, none⟩ = some (.int .u8 hi)) (_l1 : x1 < 256)
    (hs1 : w.cell? ⟨b, off + 1, none⟩ = some (.int .u8 x1)) (hd0 : decide (x1 < lo) = true) :
    Calls Tryd.prog 40 #[.slice (some ⟨b, off, none⟩) 2 cap] w fun e w' => e = .returned (.bool true) ∧ Below w.heap.size w w' := by
  go_enter Tryd.func40, Tryd.ntmps40
  go_wp2_with fail
  go_quiet (fail)
  go_wp2
  go_ret
  exact ⟨rfl, below_drewN ((Below.refl _ _).alloc (Nat.le_refl _) _) _⟩

theorem full_two_hi (b off cap x0 x1 F i lo hi : Nat) (w : World) (l0 : x0 < 256)
    (hs0 : w.cell? ⟨b, off, none⟩ = some (.int .u8 x0)) (hb : b < w.heap.size)
    (hF : F < 256) (hsz : (2 : Int) < (F : Int) % 8) (hi0 : (F : Int) / 16 = (i : Int)) (hi1 : i < 16)
    (hc0 : w.cell? ⟨2, x0, none⟩ = some (.int .u8 F))
    (ha0 : w.cell? ⟨3, i * 2, none⟩ = some (.int .u8 lo)) (ha1 : w.cell? ⟨3, i * 2 + 1, none⟩ = some (.int .u8 hi)) (_l1 : x1 < 256)
    (hs1 : w.cell? ⟨b, off + 1, none⟩ = some (.int .u8 x1)) (hd0 : decide (x1 < lo) = false) (hd1 : decide (hi < x1) = true) :
    Calls Tryd.prog 40 #[.slice (some ⟨b, off, none⟩) 2 cap] w fun e w' => e = .returned (.bool true) ∧ Below w.heap.size w w' := by
  go_enter Tryd.func40, Tryd.ntmps40
  go_wp2_with fail
  go_quiet (fail)
  go_wp2
  go_ret
  exact ⟨rfl, below_drewN ((Below.refl _ _).alloc (Nat.le_refl _) _) _⟩

theorem full_two_in (b off cap x0 x1 F i lo hi : Nat) (w : World) (l0 : x0 < 256)
    (hs0 : w.cell? ⟨b, off, none⟩ = some (.int .u8 x0)) (hb : b < w.heap.size)
    (hF : F < 256) (hsz : (2 : Int) < (F : Int) % 8) (hi0 : (F : Int) / 16 = (i : Int)) (hi1 : i < 16)
    (hc0 : w.cell? ⟨2, x0, none⟩ = some (.int .u8 F))
    (ha0 : w.cell? ⟨3, i * 2, none⟩ = some (.int .u8 lo)) (ha1 : w.cell? ⟨3, i * 2 + 1, none⟩ = some (.int .u8 hi)) (_l1 : x1 < 256)
    (hs1 : w.cell? ⟨b, off + 1, none⟩ = some (.int .u8 x1)) (hd0 : decide (x1 < lo) = false) (hd1 : decide (hi < x1) = false) :
    Calls Tryd.prog 40 #[.slice (some ⟨b, off, none⟩) 2 cap] w fun e w' => e = .returned (.bool false) ∧ Below w.heap.size w w' := by
  go_enter Tryd.func40, Tryd.ntmps40
  go_wp2_with fail
  go_quiet (fail)
  go_wp2
  go_ret
  exact ⟨rfl, below_drewN ((Below.refl _ _).alloc (Nat.le_refl _) _) _⟩

theorem full_three_lo (b off cap x0 x1 F i lo hi : Nat) (w : World) (l0 : x0 < 256)
    (hs0 : w.cell? ⟨b, off, none⟩ = some (.int .u8 x0)) (hb : b < w.heap.size)
    (hF : F < 256) (hsz : (3 : Int) < (F : Int) % 8) (hi0 : (F : Int) / 16 = (i : Int)) (hi1 : i < 16)
    (hc0 : w.cell? ⟨2, x0, none⟩ = some (.int .u8 F))
    (ha0 : w.cell? ⟨3, i * 2, none⟩ = some (.int .u8 lo)) (ha1 : w.cell? ⟨3, i * 2 + 1, none⟩ = some (.int .u8 hi)) (_l1 : x1 < 256)
    (hs1 : w.cell? ⟨b, off + 1, none⟩ = some (.int .u8 x1)) (hd0 : decide (x1 < lo) = true) :
    Calls Tryd.prog 40 #[.slice (some ⟨b, off, none⟩) 3 cap] w fun e w' => e = .returned (.bool true) ∧ Below w.heap.size w w' := by
  go_enter Tryd.func40, Tryd.ntmps40
  go_wp2_with fail
  go_quiet (fail)
  go_wp2
  go_ret
  exact ⟨rfl, below_drewN ((Below.refl _ _).alloc (Nat.le_refl _) _) _⟩

theorem full_three_hi (b off cap x0 x1 F i lo hi : Nat) (w : World) (l0 : x0 < 256)
    (hs0 : w.cell? ⟨b, off, none⟩ = some (.int .u8 x0)) (hb : b < w.heap.size)
    (hF : F < 256) (hsz : (3 : Int) < (F : Int) % 8) (hi0 : (F : Int) / 16 = (i : Int)) (hi1 : i < 16)
    (hc0 : w.cell? ⟨2, x0, none⟩ = some (.int .u8 F))
    (ha0 : w.cell? ⟨3, i * 2, none⟩ = some (.int .u8 lo)) (ha1 : w.cell? ⟨3, i * 2 + 1, none⟩ = some (.int .u8 hi)) (_l1 : x1 < 256)
    (hs1 : w.cell? ⟨b, off + 1, none⟩ = some (.int .u8 x1)) (hd0 : decide (x1 < lo) = false) (hd1 : decide (hi < x1) = true) :
    Calls Tryd.prog 40 #[.slice (some ⟨b, off, none⟩) 3 cap] w fun e w' => e = .returned (.bool true) ∧ Below w.heap.size w w' := by
  go_enter Tryd.func40, Tryd.ntmps40
  go_wp2_with fail
  go_quiet (fail)
  go_wp2
  go_ret
  exact ⟨rfl, below_drewN ((Below.refl _ _).alloc (Nat.le_refl _) _) _⟩

theorem full_three_in (b off cap x0 x1 x2 F i lo hi : Nat) (w : World) (l0 : x0 < 256)
    (hs0 : w.cell? ⟨b, off, none⟩ = some (.int .u8 x0)) (hb : b < w.heap.size)
    (hF : F < 256) (hsz : (3 : Int) < (F : Int) % 8) (hi0 : (F : Int) / 16 = (i : Int)) (hi1 : i < 16)
    (hc0 : w.cell? ⟨2, x0, none⟩ = some (.int .u8 F))
    (ha0 : w.cell? ⟨3, i * 2, none⟩ = some (.int .u8 lo)) (ha1 : w.cell? ⟨3, i * 2 + 1, none⟩ = some (.int .u8 hi)) (_l1 : x1 < 256)
    (hs1 : w.cell? ⟨b, off + 1, none⟩ = some (.int .u8 x1)) (l2 : x2 < 256)
    (hs2 : w.cell? ⟨b, off + 2, none⟩ = some (.int .u8 x2)) (hd0 : decide (x1 < lo) = false) (hd1 : decide (hi < x1) = false) :
    Calls Tryd.prog 40 #[.slice (some ⟨b, off, none⟩) 3 cap] w fun e w' => e = .returned (.bool (decide (x2 < 128 ∨ 191 < x2))) ∧ Below w.heap.size w w' := by
  go_enter Tryd.func40, Tryd.ntmps40
  go_wp2_with fail
  go_quiet (fail)
  go_wp2
  all_goals
    go_ret
    refine ⟨ret_bool ?_, below_drewN ((Below.refl _ _).alloc (Nat.le_refl _) _) _⟩
    rw [Bool.eq_iff_iff]
    simp
    omega


/-- Bytes that lie in memory. -/
def BytesIn (l : List UInt8) (a : Option Addr) (w : World) : Prop :=
  l.length = 0 ∨ ∃ b off, a = some ⟨b, off, none⟩ ∧ b < w.heap.size ∧ ∀ j, j < l.length → w.cell? ⟨b, off + j, none⟩ = some (.int .u8 (bAt l j))

theorem BytesIn.below {l : List UInt8} {a : Option Addr} {w w' : World} (h : BytesIn l a w) (hb : Below w.heap.size w w') : BytesIn l a w' := by
  rcases h with h0 | ⟨b, off, rfl, hlt, hc⟩
  · exact .inl h0
  · exact .inr ⟨b, off, rfl, Nat.lt_of_lt_of_le hlt hb.size, fun j hj => (hb.cell (by exact hlt)).trans (hc j hj)⟩

/-- utf8.FullRune at any bytes. -/
theorem fullRune (l : List UInt8) (a : Option Addr) (cap : Nat) (w : World) (hs : l.length ≤ 9223372036854775807) (hT : Lib.Utf8Tabs 2 3 w) (h : BytesIn l a w) :
    Calls Tryd.prog 40 #[.slice a l.length cap] w fun e w' => e = .returned (.bool (fullN l.length (bAt l 0) (bAt l 1) (bAt l 2))) ∧ Below w.heap.size w w' := by
  rcases h with h0 | ⟨b, off, rfl, hlt, hc⟩
  · rw [h0]
    exact full_zero a cap w
  · by_cases h0 : l.length = 0
    · rw [h0]
      exact full_zero _ cap w
    · have l0 := bAt_lt l 0
      have l1 := bAt_lt l 1
      have l2 := bAt_lt l 2
      have c0 := hc 0 (by omega)
      rw [Nat.add_zero] at c0
      have hF := hT.1 (bAt l 0) (by omega)
      have hFl : firstT (bAt l 0) < 256 := by
        rcases firstT_eq (bAt l 0) with hX | hX | hX | hX | hX | hX | hX | hX | hX <;> omega
      have hF8 : firstT (bAt l 0) % 8 ≤ 4 := by
        rcases firstT_eq (bAt l 0) with hX | hX | hX | hX | hX | hX | hX | hX | hX <;> omega
      by_cases hge : firstT (bAt l 0) % 8 ≤ l.length
      · have e : fullN l.length (bAt l 0) (bAt l 1) (bAt l 2) = true := by
          unfold fullN; rw [if_neg h0, if_pos hge]
        rw [e]
        exact full_ge b off l.length cap _ _ w (by omega) (by omega) (by omega) c0 hFl (by omega) hF
      · obtain ⟨A0, A1⟩ := hT.2 (firstT (bAt l 0) / 16) (by omega)
        rw [Nat.mul_comm] at A0 A1
        have e : fullN l.length (bAt l 0) (bAt l 1) (bAt l 2) = if 1 < l.length ∧ (bAt l 1 < accLo (firstT (bAt l 0) / 16) ∨ accHi (firstT (bAt l 0) / 16) < bAt l 1) then true else decide (2 < l.length ∧ (bAt l 2 < 128 ∨ 191 < bAt l 2)) := by
          unfold fullN; rw [if_neg h0, if_neg hge]
        rw [e]
        clear e
        rcases (show l.length = 1 ∨ l.length = 2 ∨ l.length = 3 by omega) with h1 | h1 | h1
        · rw [h1] at hge ⊢
          exact full_one b off cap _ _ _ _ _ w (by omega) c0 hlt hFl (by omega) (by omega) (by omega) hF A0 A1
        · have c1 := hc 1 (by omega)
          rw [h1] at hge ⊢
          by_cases d0 : bAt l 1 < accLo (firstT (bAt l 0) / 16)
          · rw [if_pos ⟨by omega, .inl d0⟩]
            exact full_two_lo b off cap _ _ _ _ _ _ w (by omega) c0 hlt hFl (by omega) (by omega) (by omega) hF A0 A1 (by omega) c1 (decide_eq_true d0)
          · by_cases d1 : accHi (firstT (bAt l 0) / 16) < bAt l 1
            · rw [if_pos ⟨by omega, .inr d1⟩]
              exact full_two_hi b off cap _ _ _ _ _ _ w (by omega) c0 hlt hFl (by omega) (by omega) (by omega) hF A0 A1 (by omega) c1 (decide_eq_false d0) (decide_eq_true d1)
            · rw [if_neg (by omega)]
              exact full_two_in b off cap _ _ _ _ _ _ w (by omega) c0 hlt hFl (by omega) (by omega) (by omega) hF A0 A1 (by omega) c1 (decide_eq_false d0) (decide_eq_false d1)
        · have c1 := hc 1 (by omega)
          have c2 := hc 2 (by omega)
          rw [h1] at hge ⊢
          by_cases d0 : bAt l 1 < accLo (firstT (bAt l 0) / 16)
          · rw [if_pos ⟨by omega, .inl d0⟩]
            exact full_three_lo b off cap _ _ _ _ _ _ w (by omega) c0 hlt hFl (by omega) (by omega) (by omega) hF A0 A1 (by omega) c1 (decide_eq_true d0)
          · by_cases d1 : accHi (firstT (bAt l 0) / 16) < bAt l 1
            · rw [if_pos ⟨by omega, .inr d1⟩]
              exact full_three_hi b off cap _ _ _ _ _ _ w (by omega) c0 hlt hFl (by omega) (by omega) (by omega) hF A0 A1 (by omega) c1 (decide_eq_false d0) (decide_eq_true d1)
            · rw [if_neg (by omega)]
              have e : decide (2 < 3 ∧ (bAt l 2 < 128 ∨ 191 < bAt l 2)) = decide (bAt l 2 < 128 ∨ 191 < bAt l 2) := by
                rw [Bool.eq_iff_iff]; simp
              rw [e]
              exact full_three_in b off cap _ _ _ _ _ _ _ w (by omega) c0 hlt hFl (by omega) (by omega) (by omega) hF A0 A1 (by omega) c1 (by omega) c2 (decide_eq_false d0) (decide_eq_false d1)

theorem get!_lit (l : List UInt8) (j : Nat) : (⟨l.toArray⟩ : ByteArray).get! j = l.getD j 0 := by
  simp [ByteArray.get!, List.getD]
  rfl

/-- utf8.DecodeRune, at this program: the library's contract. -/
theorem decodeRune (l : List UInt8) (b off cap : Nat) (w : World) (h0 : l.length ≠ 0) (hT : Lib.Utf8Tabs 2 3 w)
    (hp : ∀ j, j < l.length → w.cell? ⟨b, off + j, none⟩ = some (.int .u8 (bAt l j))) :
    Calls Tryd.prog 41 #[.slice (some ⟨b, off, none⟩) l.length cap] w fun e w' => e = .returned (.tuple #[.int .i32 (decodeN l.length (bAt l 0) (bAt l 1) (bAt l 2) (bAt l 3)).1, .int .i64 (decodeN l.length (bAt l 0) (bAt l 1) (bAt l 2) (bAt l 3)).2]) ∧ Below w.heap.size w w' := by
  have es : (⟨l.toArray⟩ : ByteArray).size = l.length := by simp [ByteArray.size]
  have c := Any7.utf8_DecodeRune Tryd.lays732 ⟨l.toArray⟩ b off cap w hT (fun j hj => by
    rw [get!_lit]
    exact hp j (by rw [es] at hj; exact hj))
  rw [es] at c
  have e : Lib.decodeGo ⟨l.toArray⟩ = decodeN l.length (bAt l 0) (bAt l 1) (bAt l 2) (bAt l 3) := by
    unfold Lib.decodeGo
    rw [es, if_neg h0, Lib.decode_at, es, get!_lit, get!_lit, get!_lit, get!_lit]
    rfl
  rw [e] at c
  exact c

theorem firstAt (l : List UInt8) (a : Option Addr) (cap : Nat) (w : World) (hs : l.length ≤ 9223372036854775807) (hT : Lib.Utf8Tabs 2 3 w) (h : BytesIn l a w) :
    Calls Tryd.prog 33 #[.slice a l.length cap] w fun e w' => e = .returned (.tuple #[.int .i32 (firstU l).1, .int .i64 (firstU l).2]) ∧ Below w.heap.size w w' := by
  have hf := fullRune l a cap w hs hT h
  unfold firstU
  cases hb : fullN l.length (bAt l 0) (bAt l 1) (bAt l 2)
  · rw [hb] at hf
    have HF := Lib.hid hf
    clear hf hb
    rw [if_neg (by simp)]
    go_enter Tryd.func33, Tryd.ntmps33
    go_wp2_with (go_at_call 40; refine (HF.out).mono ?_; rintro e w' ⟨rfl, hb⟩)
    go_ret2
    exact ⟨rfl, ‹_›⟩
  · rw [hb] at hf
    have h0 : l.length ≠ 0 := by
      intro h0
      rw [h0] at hb
      simp [fullN] at hb
    have HF := Lib.hid hf
    clear hf hb
    rw [if_pos rfl]
    rcases h with h0' | ⟨b, off, rfl, hlt, hc⟩
    · exact absurd h0' h0
    · have HD := Lib.hid (decodeRune l b off cap)
      generalize decodeN l.length (bAt l 0) (bAt l 1) (bAt l 2) (bAt l 3) = d at HD ⊢
      obtain ⟨r, k⟩ := d
      have HC := Lib.hid hc
      have HT := Lib.hid hT
      have H0 := Lib.hid h0
      clear hc hT h0
      go_enter Tryd.func33, Tryd.ntmps33
      go_wp2_with (go_at_call 40; refine (HF.out).mono ?_; rintro e w1 ⟨rfl, hb1⟩)
      refine (HD.out w1 H0.out (Utf8Tabs_below HT.out hb1) (fun j hj => (hb1.cell (by exact hlt)).trans (HC.out j hj))).mono ?_
      rintro e w2 ⟨rfl, hb2⟩
      have hb3 := hb1.trans (hb2.mono hb1.size)
      clear hb1 hb2
      go_wp2
      go_ret2
      exact ⟨rfl, hb3⟩
end Go.Proofs.YtnbpkabnaipimaaDoor
