/- The contract of utf.Decode at any bytes that lie in memory: the runes, in new memory. Conditions: at most 2^40 bytes. -/
import Derived.Test.YtcpfillmdkhjlaaDoorWalkE
import Derived.Lib.OthersKept
import Derived.Lib.RuneCount
namespace Go.Proofs.YtcpfillmdkhjlaaDoor
open Go Go.RowKit Go.Lib

theorem Tryd.info21 : (Tryd.prog.info? 21).map (fun i => (i.zero, i.size, i.bytes)) = some (some (.int .i32 0), 1, 4) := by kernel_rfl

/-- The runes of bytes from a place on. -/
def decFrom (s : ByteArray) : Nat → Nat → List Int
  | 0, _ => []
  | f + 1, pos => if pos < s.size then ((Utf8.decode s pos).1 : Int) :: decFrom s f (pos + (Utf8.decode s pos).2) else []
def decAll (s : ByteArray) : List Int := decFrom s s.size 0
theorem decFrom_end (s : ByteArray) (f pos : Nat) (h : ¬ pos < s.size) : decFrom s f pos = [] := by cases f <;> simp [decFrom, h]
theorem decFrom_le (s : ByteArray) : ∀ f pos, (decFrom s f pos).length ≤ f
  | 0, _ => by simp [decFrom]
  | f + 1, pos => by
    have ih := decFrom_le s f (pos + (Utf8.decode s pos).2)
    unfold decFrom
    split
    · simp; omega
    · simp

theorem conv_bytes {s : ByteArray} {a : Option Addr} {w : World} (h : BytesIn s a w) (cap : Nat) : (convert 25 9 (.slice a s.size cap)).run Tryd.prog w = .ok (.string s) w := by
  by_cases h0 : s.size = 0
  · have e : s = ByteArray.empty := by
      have : s.data.size = 0 := h0
      simpa using this
    rw [h0, run_convert_bytes_string w 25 9 5 a 0 cap Tryd.underlying25 Tryd.underlying5 Tryd.underlying9, e]
    cases a <;> simp [Conv.bytesToString, loadCells]
    all_goals rfl
  · rcases h with h' | ⟨b, off, rfl, hlt, hc⟩
    · exact absurd h' h0
    · have := run_convert_bytes_arg (P := Tryd.prog) w 25 5 Tryd.underlying25 Tryd.underlying5 b off s.size cap (s.data.toList.map fun x => (x.toNat : Int)) (by simp) (fun i hi => by
        rw [hc i hi, ← Lib.getD_get!']
        generalize s.data.toList = l
        simp only [List.getD, List.getElem?_map]
        cases l[i]? <;> rfl) 9 Tryd.underlying9
      rw [strOfNums_bytes] at this
      exact this

theorem runeCount_zero (a : Option Addr) (cap : Nat) (w : World) :
    Calls Tryd.prog 24 #[.slice a 0 cap] w fun e w' => e = .returned (.int .i64 0) ∧ Below w.heap.size w w' := by
  go_enter Tryd.func24, Tryd.ntmps24
  go_wp2
  go_loop [4] (fun n => n = .int .i64 0) (fun _ => 0)
  case atStart => rfl
  case round =>
    subst hrel
    go_wp2
    go_ret
    exact ⟨rfl, Below.refl _ _⟩

theorem runeCount (s : ByteArray) (a : Option Addr) (cap : Nat) (w : World) (hs : s.size ≤ 1099511627776) (hcap : s.size ≤ cap) (h : BytesIn s a w) :
    Calls Tryd.prog 24 #[.slice a s.size cap] w fun e w' => (∃ c : Nat, c ≤ s.size ∧ e = .returned (.int .i64 c)) ∧ Below w.heap.size w w' := by
  by_cases h0 : s.size = 0
  · rw [h0]
    exact (runeCount_zero a cap w).mono fun e w' ⟨he, hb⟩ => ⟨⟨0, Nat.le_refl _, he⟩, hb⟩
  · rcases h with h' | ⟨b, off, rfl, hlt, hc⟩
    · exact absurd h' h0
    · refine (Any7.utf8_RuneCount Tryd.lays731 s b off cap w hcap hc (by omega)).mono ?_
      rintro e w' ⟨rfl, rfl | ⟨t, pos, rfl⟩⟩
      · exact ⟨⟨_, Lib.runeCount_le s, rfl⟩, Below.refl _ _⟩
      · exact ⟨⟨_, Lib.runeCount_le s, rfl⟩, (Below.refl _ _).alloc (Nat.le_refl _) _⟩

theorem own_iterAt {w : World} {base e size n : Nat} {v : Value} {xs : List Value} (h : w.ownsRow base e size v n xs) {k : Nat} {s : ByteArray} {pos : Nat} (hk : w.heap[k]? = some (.stringIter s pos)) (p : Nat) : (w.iterAt k s p).ownsRow base e size v n xs := by
  obtain ⟨h1, h2⟩ := h
  refine ⟨h1, ?_⟩
  rcases h2 with h2 | ⟨g, cap, cur, a, b, c, d⟩
  · exact .inl h2
  · exact .inr ⟨g, cap, cur, a, b, by rw [Lib.iterAt_other _ _ _ _ _ (fun e1 => by rw [e1, hk] at c; simp at c)]; exact c, d⟩

theorem iter_grown {w w' : World} {base e size n k : Nat} {v : Value} {xs : List Value} {s : ByteArray} {pos : Nat} {o : Obj} (h : w.ownsRow base e size v n xs) (hk : w.heap[k]? = some (.stringIter s pos)) (hg : (w.alloc o).grownBy w' v.ownBlock) : w'.heap[k]? = some (.stringIter s pos) := by
  have hlt : k < w.heap.size := (Array.getElem?_eq_some_iff.1 hk).1
  rw [hg.block k (by simp; omega) ?_]
  · exact (Below.heap_alloc w o k hlt).trans hk
  · intro hb
    rcases h.2 with ⟨rfl, _⟩ | ⟨g, cap, cur, rfl, _, c, _⟩
    · simp [Value.ownBlock] at hb
    · simp [Value.ownBlock] at hb
      subst hb
      rw [hk] at c
      simp at c

set_option maxHeartbeats 2000000 in
theorem decode (s : ByteArray) (a : Option Addr) (cap : Nat) (w : World) (hs : s.size ≤ 1099511627776) (hcap : s.size ≤ cap) (h : BytesIn s a w) :
    Calls Tryd.prog 14 #[.slice a s.size cap] w fun e w' => ∃ v, e = .returned v ∧ w'.ownsRow w.heap.size 21 1 v (decAll s).length ((decAll s).map (fun x => Value.int .i32 x)) ∧ Below w.heap.size w w' := by
  obtain ⟨i0, hi, hz0, hz1, hz2⟩ := info_parts Tryd.info21
  have HI := Lib.hid h
  clear h
  go_enter Tryd.func14, Tryd.ntmps14
  go_wp2_with fail
  refine (runeCount s a cap w hs hcap HI.out).mono ?_
  rintro e w1 ⟨⟨c, hc, rfl⟩, b1⟩
  have B1 := Lib.hid b1
  have hsz1 := b1.size
  clear b1
  go_wp2_with (at_make; refine wpList_make_own _ rfl _ _ 22 rfl w.heap.size 21 i0 (.int .i32 0) 1 Tryd.underlying22 hi hz0 hz1 .i64 .i64 _ c rfl rfl rfl (by rw [hz2]; omega) (by unfold maxLen; omega) (by omega) ?_)
  intro w2 hown2 hgrow2
  have hconv := conv_bytes (HI.out.below (B1.out.trans (((Below.refl _ _).grown hgrow2 (Nat.le_refl _) (by simp)).mono (by omega)))) cap
  have B2 := Lib.hid (B1.out.grown hgrow2 (by omega) (by simp))
  have hsz2 := hgrow2.size
  have O2 := Lib.hid hown2
  clear hown2 hgrow2
  go_wp2
  go_loopw [3] (fun v wr => ∃ (pos f : Nat) (acc : List Int), wr.heap[w2.heap.size]? = some (.stringIter s pos) ∧ wr.ownsRow w.heap.size 21 1 v acc.length (acc.map (fun x => Value.int .i32 x)) ∧ acc ++ decFrom s f pos = decAll s ∧ s.size ≤ pos + f ∧ acc.length ≤ pos ∧ Below w.heap.size w wr)
    (fun _ wr => s.size - wr.iterPos w2.heap.size)
  case atStart =>
    refine ⟨0, s.size, [], World.iter_heap w2 s 0, O2.out.alloc _, by simp [decAll], by omega, by simp, B2.out.alloc (by omega) _⟩
  case round =>
    obtain ⟨pos, f, acc, hk, hown, hacc, hf, hap, hbel⟩ := hrel
    have HA := Lib.hid hacc
    have HK := Lib.hid hk
    have HO := Lib.hid hown
    have HBL := Lib.hid hbel
    have hsz := hbel.size
    have hmu := Lib.hid (show wr.iterPos w2.heap.size = pos by simp [World.iterPos, hk])
    clear hacc hk hown hbel
    by_cases hp : pos < s.size
    · have hnx : ∀ ty, (Instr.next (.pointer (some ⟨w2.heap.size, 0, none⟩)) true ty).run Tryd.prog wr = _ := fun ty => Lib.run_next_any_at wr w2.heap.size s pos ty HK.out hp
      have hwd := Lib.decode_width_pos s pos hp
      have hO1 := own_iterAt HO.out HK.out (pos + (Utf8.decode s pos).2)
      have hk1 := Lib.iterAt_heap wr w2.heap.size s pos (pos + (Utf8.decode s pos).2) HK.out
      have hb1 := Lib.below_iterAt HBL.out (k := w2.heap.size) (by omega) s (pos + (Utf8.decode s pos).2)
      obtain ⟨r, hr⟩ : ∃ r, r = (Utf8.decode s pos).1 := ⟨_, rfl⟩
      obtain ⟨d, hd⟩ : ∃ d, d = (Utf8.decode s pos).2 := ⟨_, rfl⟩
      rw [← hd] at hwd hO1 hk1 hb1
      simp only [← hr, ← hd] at hnx
      generalize hW : wr.iterAt w2.heap.size s (pos + d) = W1 at hnx hO1 hk1 hb1
      have R := Lib.hid hr
      have D := Lib.hid hd
      have O1 := Lib.hid hO1
      have K1 := Lib.hid hk1
      have BB := Lib.hid hb1
      have hs1 := hb1.size
      clear hr hd hO1 hk1 hb1 hW
      go_wp2_with (at_builtin; refine wpList_append_own _ rfl _ _ 22 rfl w.heap.size 21 i0 (.int .i32 0) 1 4 Tryd.underlying22 hi hz0 hz1 hz2 rfl (by decide) _ _ _ rfl (O1.out.alloc _) ⟨W1.heap.size, 0, none⟩ 1 1 [.int .i32 r] rfl rfl (new_cells _ _ _) (by intro u hu; simp at hu; subst hu; rfl) (by unfold maxLen; omega) (by omega) (by simp; omega) ?_)
      intro v' w3 hown3 hg _
      have K2 := Lib.hid (iter_grown O1.out K1.out hg)
      have B3 := Lib.hid ((BB.out.alloc (by omega) _).grown hg (by simp; omega) (fun k hk => (O1.out.lt k hk).1))
      have O3 := Lib.hid hown3
      clear hown3 hg hnx
      go_wp2
      go_roundw
      case rel =>
        cases f with
        | zero => omega
        | succ f =>
          refine ⟨pos + d, f, acc ++ [(r : Int)], K2.out, ?_, ?_, by omega, by simp; omega, B3.out⟩
          · simpa using O3.out
          · rw [← HA.out, decFrom, if_pos hp, R.out, D.out]
            simp
      case measure =>
        have e : w3.iterPos w2.heap.size = pos + d := by simp [World.iterPos, K2.out]
        rw [hmu.out, e]
        omega
    · have hnx : ∀ ty, (Instr.next (.pointer (some ⟨w2.heap.size, 0, none⟩)) true ty).run Tryd.prog wr = _ := fun ty => Lib.run_next_end_at wr w2.heap.size s pos ty HK.out hp
      go_wp2
      go_ret
      have e := HA.out
      rw [decFrom_end s f pos hp, List.append_nil] at e
      subst e
      exact ⟨_, rfl, HO.out, HBL.out⟩
end Go.Proofs.YtcpfillmdkhjlaaDoor
