/- The contracts of the reference's Decode, Same and All. -/
import Derived.Test.YtcpfillmdkhjlaaDoorMath
import Derived.Test.YtcpfillmdkhjlaaDoorWalkF
import Derived.Lib.RuneCountTail
namespace Go.Proofs.YtcpfillmdkhjlaaDoor
open Go Go.RowKit Go.Lib

theorem decode_width (s : ByteArray) (pos : Nat) (h : pos < s.size) : pos + (Utf8.decode s pos).2 ≤ s.size := by
  rw [Lib.decode_at]
  have l0 := (s.get! pos).toNat_lt
  have l1 := (s.get! (pos + 1)).toNat_lt
  have l2 := (s.get! (pos + 2)).toNat_lt
  have l3 := (s.get! (pos + 3)).toNat_lt
  rw [decodeN_is _ _ _ _ _ (by omega) (by omega) (by omega) (by omega)]
  repeat' split
  all_goals simp only
  all_goals omega

theorem decodeGo_tail (s : ByteArray) (pos : Nat) (h : pos < s.size) : Lib.decodeGo (s.extract pos s.size) = Utf8.decode s pos := by
  unfold Lib.decodeGo
  rw [if_neg (by rw [Lib.tail_size]; omega), Lib.tail_decode, Nat.add_zero]

/-- A step of the reference's loop is the decoder's. -/
theorem step_zero (t : ByteArray) (ht : t.size ≠ 0) (h : (firstL t).2 = 0) : firstL t = (0, 0) ∧ Lib.decodeGo t = (65533, 1) := by
  rw [first_same] at h ⊢
  unfold firstGo at h ⊢
  by_cases hf : fullN t.size (t.get! 0).toNat (t.get! 1).toNat (t.get! 2).toNat = true
  · rw [if_pos hf] at h
    have hd : Lib.decodeGo t = Utf8.decode t 0 := by unfold Lib.decodeGo; rw [if_neg ht]
    have := Lib.decode_width_pos t 0 (by omega)
    rw [hd] at h
    simp only at h
    omega
  · rw [if_neg hf]
    refine ⟨rfl, ?_⟩
    have hd : Lib.decodeGo t = decodeN t.size (t.get! 0).toNat (t.get! 1).toNat (t.get! 2).toNat (t.get! 3).toNat := by
      simp only [Lib.decodeGo, ht, if_false]
      rw [Lib.decode_at, Nat.sub_zero]
    have l0 := (t.get! 0).toNat_lt
    have l1 := (t.get! 1).toNat_lt
    have l2 := (t.get! 2).toNat_lt
    have l3 := (t.get! 3).toNat_lt
    have fo := full_of_ok t.size (t.get! 0).toNat (t.get! 1).toNat (t.get! 2).toNat (t.get! 3).toNat (by omega) (by omega) (by omega) (by omega) ht
    rw [hd, decodeN_is _ _ _ _ _ (by omega) (by omega) (by omega) (by omega)]
    rw [if_neg (fun h => hf (fo (.inl h))), if_neg (fun h => hf (fo (.inr (.inl h)))), if_neg (fun h => hf (fo (.inr (.inr (.inl h))))), if_neg (fun h => hf (fo (.inr (.inr (.inr (by omega))))))]
theorem step_some (t : ByteArray) (h : (firstL t).2 ≠ 0) : firstL t = (((Lib.decodeGo t).1 : Int), (Lib.decodeGo t).2) := by
  rw [first_same] at h ⊢
  unfold firstGo at h ⊢
  by_cases hf : fullN t.size (t.get! 0).toNat (t.get! 1).toNat (t.get! 2).toNat = true
  · rw [if_pos hf]
  · rw [if_neg hf] at h
    exact absurd rfl h

theorem tail_in (s : ByteArray) (pos d b off : Nat) (w : World) (h : pos + d ≤ s.size) (hlt : b < w.heap.size)
    (hc : ∀ j, j < (s.extract pos s.size).size → w.cell? ⟨b, off + j, none⟩ = some (.int .u8 ((s.extract pos s.size).get! j).toNat)) : BytesIn (s.extract (pos + d) s.size) (some ⟨b, off + d, none⟩) w := by
  refine .inr ⟨b, off + d, rfl, hlt, fun j hj => ?_⟩
  rw [Lib.tail_size] at hj
  have := hc (d + j) (by rw [Lib.tail_size]; omega)
  rw [Lib.tail_get!] at this ⊢
  rw [Nat.add_assoc, this, Nat.add_assoc]

set_option maxHeartbeats 4000000 in
theorem refDecode (s : ByteArray) (a : Option Addr) (cap : Nat) (w : World) (hs : s.size ≤ 1099511627776) (hcap : s.size ≤ cap) (hcm : cap ≤ 9223372036854775807) (h : BytesIn s a w) :
    Calls Tryd.prog 15 #[.slice a s.size cap] w fun e w' => ∃ v, e = .returned v ∧ w'.ownsRow w.heap.size 21 1 v (decAll s).length ((decAll s).map (fun x => Value.int .i32 x)) ∧ Below w.heap.size w w' := by
  obtain ⟨i0, hi, hz0, hz1, hz2⟩ := info_parts Tryd.info21
  have HI := Lib.hid h
  clear h
  go_enter Tryd.func15, Tryd.ntmps15
  go_wp2
  go_loopw [0, 3] (fun x v wr => ∃ (pos f : Nat) (acc : List Int) (a' : Option Addr) (k cap' : Nat), x = .slice a' k cap' ∧ k = s.size - pos ∧ k ≤ cap' ∧ cap' ≤ 9223372036854775807 ∧ pos ≤ s.size ∧ BytesIn (s.extract pos s.size) a' w ∧ wr.ownsRow w.heap.size 21 1 v acc.length (acc.map (fun x => Value.int .i32 x)) ∧ acc ++ decFrom s f pos = decAll s ∧ s.size ≤ pos + f ∧ acc.length ≤ pos ∧ Below w.heap.size w wr)
    (fun x _ _ => lenOf x)
  case atStart =>
    refine ⟨0, s.size, [], a, s.size, cap, rfl, by omega, hcap, hcm, by omega, ?_, World.ownsRow_nil _ _ _ _, by simp [decAll], by omega, by simp, Below.refl _ _⟩
    have e : s.extract 0 s.size = s := by simp
    rw [e]
    exact HI.out
  case round =>
    obtain ⟨pos, f, acc, a', k, cap', rfl, hk, hkc, hcm', hpos, hin, hown, hacc, hf, hap, hbel⟩ := hrel
    have HK := Lib.hid hk
    have HA := Lib.hid hacc
    have HO := Lib.hid hown
    have HBL := Lib.hid hbel
    have hsz := hbel.size
    clear hk hacc hown hbel
    by_cases hp : pos < s.size
    · have hk0 : 0 < k := by have := HK.out; omega
      have hts : (s.extract pos s.size).size = k := by rw [Lib.tail_size, HK.out]
      rcases hin with h' | ⟨b, off, rfl, hlt, hc⟩
      · omega
      have hF := refFirst (s.extract pos s.size) (some ⟨b, off, none⟩) cap' wr (by rw [hts]; have := HK.out; omega) (by omega) (BytesIn.below (.inr ⟨b, off, rfl, hlt, hc⟩) HBL.out)
      rw [hts] at hF
      have HF := Lib.hid hF
      have HC := Lib.hid hc
      have HTS := Lib.hid hts
      clear hF hc hts
      have hkz : (0 : Int) < (k : Int) := by omega
      obtain ⟨r, hr⟩ : ∃ r, r = (Utf8.decode s pos).1 := ⟨_, rfl⟩
      obtain ⟨d, hd⟩ : ∃ d, d = (Utf8.decode s pos).2 := ⟨_, rfl⟩
      have hd1 : 1 ≤ d := by rw [hd]; exact Lib.decode_width_pos s pos hp
      have hd2 : pos + d ≤ s.size := by rw [hd]; exact decode_width s pos hp
      have hdk : d ≤ k := by have := HK.out; omega
      have R := Lib.hid hr
      have D := Lib.hid hd
      clear hr hd
      by_cases hz : (firstL (s.extract pos s.size)).2 = 0
      · obtain ⟨z1, z2⟩ := step_zero _ (by rw [HTS.out]; omega) hz
        rw [z1] at HF
        rw [decodeGo_tail s pos hp] at z2
        have hr' : r = 65533 := by rw [R.out, z2]
        have hd' : d = 1 := by rw [D.out, z2]
        subst hr'
        subst hd'
        have Z2 := Lib.hid z2
        clear z1 z2 hz
        go_wp2_with (first
          | (go_at_call 12; refine HF.out.mono ?_; rintro e w1 ⟨rfl, hb1⟩; have hs1 := hb1.size; have HO1 := Lib.hid (own_below' HO.out hb1); have HB1 := Lib.hid hb1; clear hb1)
          | (at_builtin; refine wpList_append_own _ rfl _ _ 22 rfl w.heap.size 21 i0 (.int .i32 0) 1 4 Tryd.underlying22 hi hz0 hz1 hz2 rfl (by decide) _ _ _ rfl (HO1.out.alloc _) ⟨w1.heap.size, 0, none⟩ 1 1 [.int .i32 65533] rfl rfl (new_cells _ _ _) (by intro u hu; simp at hu; subst hu; rfl) (by unfold maxLen; omega) (by omega) (by simp; omega) ?_; intro v' w3 hown3 hg _; have O3 := Lib.hid hown3; have HG := Lib.hid hg; clear hown3 hg))
        go_roundw
        case rel =>
          cases f with
          | zero => omega
          | succ f =>
            have hkk := HK.out
            have hc1 : Below w.heap.size w w1 := HBL.out.trans (HB1.out.mono hsz)
            refine ⟨pos + 1, f, acc ++ [(65533 : Int)], _, _, _, rfl, by omega, by omega, by omega, by omega, ?_, ?_, ?_, by omega, by simp; omega, (hc1.alloc (by omega) _).grown HG.out (by simp; omega) (fun j hj => (HO1.out.lt j hj).1)⟩
            · by_cases hcd : cap' = 1
              · exact .inl (by rw [Lib.tail_size]; omega)
              · rw [if_neg hcd]
                exact tail_in s pos 1 b off w hd2 hlt HC.out
            · simpa using O3.out
            · rw [← HA.out, decFrom, if_pos hp, ← R.out, ← D.out]
              simp
        case measure => simp [lenOf]; omega
      · have z2 := step_some _ hz
        rw [decodeGo_tail s pos hp] at z2
        rw [z2, ← R.out, ← D.out] at HF
        have hdz : ((d : Int) == 0) = false := beq_eq_false_iff_ne.2 (by omega)
        have hdkz : (d : Int) ≤ (k : Int) := by omega
        have hdcz : (d : Int) ≤ (cap' : Int) := by omega
        clear z2 hz
        go_wp2_with (first
          | (go_at_call 12; refine HF.out.mono ?_; rintro e w1 ⟨rfl, hb1⟩; have hs1 := hb1.size; have HO1 := Lib.hid (own_below' HO.out hb1); have HB1 := Lib.hid hb1; clear hb1)
          | (at_builtin; refine wpList_append_own _ rfl _ _ 22 rfl w.heap.size 21 i0 (.int .i32 0) 1 4 Tryd.underlying22 hi hz0 hz1 hz2 rfl (by decide) _ _ _ rfl (HO1.out.alloc _) ⟨w1.heap.size, 0, none⟩ 1 1 [.int .i32 (r : Int)] rfl rfl (new_cells _ _ _) (by intro u hu; simp at hu; subst hu; rfl) (by unfold maxLen; omega) (by omega) (by simp; omega) ?_; intro v' w3 hown3 hg _; have O3 := Lib.hid hown3; have HG := Lib.hid hg; clear hown3 hg))
        go_roundw
        case rel =>
          cases f with
          | zero => omega
          | succ f =>
            have hkk := HK.out
            have hc1 : Below w.heap.size w w1 := HBL.out.trans (HB1.out.mono hsz)
            refine ⟨pos + d, f, acc ++ [(r : Int)], _, _, _, rfl, by omega, by omega, by omega, by omega, ?_, ?_, ?_, by omega, by simp; omega, (hc1.alloc (by omega) _).grown HG.out (by simp; omega) (fun j hj => (HO1.out.lt j hj).1)⟩
            · by_cases hcd : cap' = d
              · exact .inl (by rw [Lib.tail_size]; omega)
              · rw [if_neg hcd]
                exact tail_in s pos d b off w hd2 hlt HC.out
            · simpa using O3.out
            · rw [← HA.out, decFrom, if_pos hp, ← R.out, ← D.out]
              simp
        case measure => simp [lenOf]; omega
    · have hk0 : k = 0 := by have := HK.out; omega
      subst hk0
      go_wp2
      go_ret
      have e := HA.out
      rw [decFrom_end s f pos hp, List.append_nil] at e
      subst e
      exact ⟨_, rfl, HO.out, HBL.out⟩
end Go.Proofs.YtcpfillmdkhjlaaDoor
