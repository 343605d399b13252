/- The contract of Feed. Conditions: the decoder and the bytes lie in memory, not too many; three variables of the library's hold something. -/
import Derived.Test.YtlmfhdkpgpjbnaaDoorWalkE
import Derived.Test.YtlmfhdkpgpjbnaaDoorConcat
namespace Go.Proofs.YtlmfhdkpgpjbnaaDoor
open Go Go.RowKit Go.Lib

/-- All blocks below B but one are as they were. -/
structure But (rb : Option Nat) (B : Nat) (w w' : World) : Prop where
  size : w.heap.size ≤ w'.heap.size
  block : ∀ k, k < B → rb ≠ some k → w'.heap[k]? = w.heap[k]?
theorem But.of {rb : Option Nat} {B : Nat} {w w' : World} (h : Below B w w') : But rb B w w' := ⟨h.size, fun k hk _ => h.block k hk⟩
theorem But.cell {rb : Option Nat} {B : Nat} {w w' : World} (h : But rb B w w') {p : Addr} (hp : p.block < B) (hn : rb ≠ some p.block) : w'.cell? p = w.cell? p := World.cell?_of_block (w := w) (h.block _ hp hn)
theorem But.trans {rb : Option Nat} {B : Nat} {a b c : World} (h : But rb B a b) (k : But rb B b c) : But rb B a c := ⟨Nat.le_trans h.size k.size, fun i hi hn => (k.block i hi hn).trans (h.block i hi hn)⟩
theorem But.mono {rb : Option Nat} {B B' : Nat} {w w' : World} (h : But rb B w w') (hB : B' ≤ B) : But rb B' w w' := ⟨h.size, fun k hk hn => h.block k (Nat.lt_of_lt_of_le hk hB) hn⟩
theorem But.set {w : World} {rb : Nat} {B : Nat} (v : Value) : But (some rb) B w (w.setCell ⟨rb, 0, none⟩ v) := by
  have := (Below.refl rb w).setCell (p := ⟨rb, 0, none⟩) (Nat.le_refl _) v
  refine ⟨this.size, fun k _ hn => ?_⟩
  exact Below.heap_setCell w _ v k (fun e => hn (by rw [e]))

theorem Tryd.info30 : (Tryd.prog.info? 30).map (fun i => (i.zero, i.size, i.bytes)) = some (some (.agg #[.int .i64 0, .int .i32 0, .int .i64 0]), 3, 24) := by kernel_rfl

/-- A slice that does not lie in a block. -/
def Off (d : Nat) (a : Option Addr) : Prop := ∀ ad, a = some ad → ad.block ≠ d
theorem BytesIn.but {l : List UInt8} {a : Option Addr} {w w' : World} {d : Nat} (h : BytesIn l a w) (hb : But (some d) w.heap.size w w') (ho : Off d a) : BytesIn l a w' := by
  rcases h with h0 | ⟨b, off, rfl, hlt, hc⟩
  · exact .inl h0
  · exact .inr ⟨b, off, rfl, Nat.lt_of_lt_of_le hlt hb.size, fun j hj => (hb.cell (by exact hlt) (by have := ho _ rfl; simp at this ⊢; omega)).trans (hc j hj)⟩

/-- A decoder in memory, with the bytes that wait; what is known of their block. -/
structure DecAt (w : World) (d : Nat) (l : List UInt8) (N : Nat → Prop) : Prop where
  lt : d < w.heap.size
  froz : w.frozen? ⟨d, 0, none⟩ = false
  row : ∃ a c, w.cell? ⟨d, 0, none⟩ = some (.slice a l.length c) ∧ BytesIn l a w ∧ l.length ≤ c ∧ c ≤ 9223372036854775807 ∧ (a = none → l.length = 0 ∧ c = 0) ∧ Off d a ∧ (l.length ≠ 0 → ∀ ad, a = some ad → N ad.block)

/-- Keys as cells. -/
def Ky.cells (x : Ky) : List Value := [.int .i64 x.k, .int .i32 x.r, .int .i64 x.m]
def keyVals (l : List Ky) : List Value := l.flatMap Ky.cells
theorem keyVals_len (l : List Ky) : (keyVals l).length = l.length * 3 := by
  induction l with
  | nil => rfl
  | cons x r ih =>
    unfold keyVals at ih ⊢
    rw [List.flatMap_cons, List.length_append, ih, List.length_cons]
    simp [Ky.cells]
    omega
theorem keyVals_append (l m : List Ky) : keyVals (l ++ m) = keyVals l ++ keyVals m := by simp [keyVals]
theorem keyVals_single (x : Ky) : keyVals [x] = x.cells := by simp [keyVals]
theorem keyVals_one (l : List Ky) : ∀ u ∈ keyVals l, u.oneCell' = true := by
  intro u hu
  simp only [keyVals, List.mem_flatMap, Ky.cells] at hu
  obtain ⟨x, _, h⟩ := hu
  simp at h
  rcases h with rfl | rfl | rfl <;> rfl

theorem own_le {w : World} {B B' e size n : Nat} {v : Value} {xs : List Value} (h : w.ownsRow B e size v n xs) (hb : B' ≤ B) : w.ownsRow B' e size v n xs := by
  refine ⟨h.1, ?_⟩
  rcases h.2 with hn | ⟨g, cap, cur, rfl, hB, rest⟩
  · exact .inl hn
  · exact .inr ⟨g, cap, cur, rfl, Nat.le_trans hb hB, rest⟩

theorem key_cells (w : World) (x y z : Int) : ∀ j u, [Value.int .i64 x, Value.int .i32 y, Value.int .i64 z][j]? = some u → ((w.alloc (Obj.cells #[.int .i64 x, .int .i32 y, .int .i64 z] 30)).alloc (Obj.cells #[.int .i64 x, .int .i32 y, .int .i64 z] 30)).cell? ((⟨w.heap.size + 1, 0, none⟩ : Addr).add j) = some u := by
  have h := new_cells (w.alloc (Obj.cells #[.int .i64 x, .int .i32 y, .int .i64 z] 30)) [.int .i64 x, .int .i32 y, .int .i64 z] 30
  have e : (w.alloc (Obj.cells #[.int .i64 x, .int .i32 y, .int .i64 z] 30)).heap.size = w.heap.size + 1 := by simp
  rw [e] at h
  exact h

def lenV : Value → Nat
  | .slice _ n _ => n
  | _ => 0

theorem slice_from (a : Option Addr) (l : List UInt8) (cap i : Nat) (_h0 : i ≠ 0) (hi : i ≤ l.length) (hn : l.length ≤ cap) (hno : a = none → l.length = 0 ∧ cap = 0) : ∃ a', (∀ w : World, (Instr.slice 22 (.slice a l.length cap) (some (.int .i64 i)) none none).run Tryd.prog w = .ok (.slice a' (l.drop i).length (cap - i)) w) ∧ (∀ w, BytesIn l a w → BytesIn (l.drop i) a' w) ∧ (a' = none → (l.drop i).length = 0 ∧ cap - i = 0) := by
  have hd : (l.drop i).length = l.length - i := by rw [List.length_drop]
  refine ⟨if cap = i then a else a.map (·.add (i * 1)), fun w => ?_, fun w h => ?_, fun h => ?_⟩
  · rw [run_slice_l (P := Tryd.prog) w 22 a l.length cap und22 .i64 (i : Int) (by omega) (by omega), size5, hd]
    simp only [Result.andThen, sliced]
    simp
  · by_cases hz : l.length - i = 0
    · exact .inl (by omega)
    · rcases h with h1 | ⟨b, off, rfl, hlt, hc⟩
      · omega
      · refine .inr ⟨b, off + i, ?_, hlt, fun j hj => ?_⟩
        · rw [if_neg (by omega)]
          simp [Addr.add_lit]
        · rw [bAt_drop, show off + i + j = off + (i + j) by omega]
          exact hc _ (by omega)
  · split at h
    · have := hno h; omega
    · cases a with
      | none => have := hno rfl; omega
      | some ad => cases h

set_option maxHeartbeats 4000000 in
set_option maxRecDepth 100000 in
theorem feedAt (N0 : Nat → Prop) (d : Nat) (l0 b : List UInt8) (ab : Option Addr) (cb : Nat) (w : World) (hd : DecAt w d l0 N0) (hb : BytesIn b ab w) (hnb : ab = none → b.length = 0 ∧ cb = 0) (h0 : l0.length ≤ 500) (h1 : b.length ≤ 500) (hw : Wd w) :
    Calls Tryd.prog 6 #[.pointer (some ⟨d, 0, none⟩), .slice ab b.length cb] w fun e w' => ∃ v ks r, e = .returned v ∧ Run (l0 ++ b) ks r ∧ w'.ownsRow w.heap.size 30 3 v ks.length (keyVals ks) ∧ DecAt w' d r (fun k => w.heap.size ≤ k) ∧ Below d w w' ∧ But (some d) w.heap.size w w' := by
  obtain ⟨i2, hi2, hy0, hy1, hy2⟩ := info_cut Tryd.info30
  have hlt := hd.lt
  have F0 := Lib.hid hd.froz
  obtain ⟨a0, c0, q0, z0, z1, z2, z3, z4, _⟩ := hd.row
  have BA := Lib.hid (show Below w.heap.size w (w.alloc (Obj.cells #[.slice a0 l0.length c0, .slice ab b.length cb] 22)) from (Below.refl _ _).alloc (Nat.le_refl _) _)
  have CC := Lib.hid (concatAt w.heap.size c0 cb a0 ab l0 b (w.alloc (Obj.cells #[.slice a0 l0.length c0, .slice ab b.length cb] 22)) (by omega) (by omega) z3 hnb (z0.below BA.out) (hb.below BA.out) (by simp) (by go_simp) (by go_simp))
  have Q0 := Lib.hid q0
  have HW := Lib.hid hw
  clear hb hnb z0 z1 z2 z3 z4 hd hw
  go_enter Tryd.func6, Tryd.ntmps6
  go_wp2_with fail
  (with_reducible refine CC.out.mono ?_)
  rintro e w2 ⟨v2, rfl, own2, hb2⟩
  obtain ⟨a2, c2, rfl, y0, y1, y2, y3, y4⟩ := own_bytes own2
  have B2 := Lib.hid (BA.out.trans (hb2.mono (by simp)))
  have Y0 := Lib.hid y0
  have Y3 := Lib.hid y3
  have hlen : (l0 ++ b).length ≤ 1000 := by rw [List.length_append]; omega
  clear CC own2 hb2 y0 y3 y4
  go_wp2
  go_loopw [5, 6, 7, 8] (fun v5 v6 _ _ wr => ∃ ks rest a c, v6 = .slice a rest.length c ∧ Took (l0 ++ b) ks rest ∧ BytesIn rest a w2 ∧ rest.length ≤ c ∧ c ≤ 9223372036854775807 ∧ (a = none → rest.length = 0 ∧ c = 0) ∧ wr.ownsRow w2.heap.size 30 3 v5 ks.length (keyVals ks) ∧ Below w2.heap.size w2 wr) (fun _ v6 _ _ _ => lenV v6)
  case atStart => exact ⟨[], l0 ++ b, a2, c2, by rw [List.length_append], .start _, Y0.out, y1, y2, Y3.out, World.ownsRow_nil _ _ _ _, Below.refl _ _⟩
  case round =>
    obtain ⟨ks, rest, a, c, rfl, htook, hin, hcap, hc63, hno, hown, hbel⟩ := hrel
    have hkl := htook.len
    have KK := Lib.hid (keyAt rest a c wr (by omega) hcap hc63 ((HW.out.below B2.out).below hbel) (hin.below hbel))
    have TK := Lib.hid htook
    have HI := Lib.hid hin
    have NO := Lib.hid hno
    have OW := Lib.hid hown
    have BE := Lib.hid hbel
    have FL := Lib.hid (firstP_le rest)
    obtain ⟨x, hx⟩ : ∃ x, x = firstP rest := ⟨_, rfl⟩
    have HX := Lib.hid hx
    rw [← hx] at KK FL
    obtain ⟨⟨x1, x2, x3⟩, n⟩ := x
    simp only [Ky.val] at KK
    clear htook hin hno hown hbel hx
    go_wp2_with fail
    (with_reducible refine KK.out.mono ?_)
    rintro e w3 ⟨rfl, hb3⟩
    have B3 := Lib.hid hb3
    clear hb3 KK
    by_cases hn : n = 0
    · subst hn
      have RU := Lib.hid (TK.out.end_ (show (firstP rest).2 = 0 by rw [← HX.out]))
      have B4 := Lib.hid (show Below w2.heap.size w2 (w3.alloc (Obj.cells #[.int .i64 x1, .int .i32 x2, .int .i64 x3] 30)) from (BE.out.trans (B3.out.mono BE.out.size)).alloc (Nat.le_trans BE.out.size B3.out.size) _)
      have CL := Lib.hid (cloneAt a c rest (w3.alloc (Obj.cells #[.int .i64 x1, .int .i32 x2, .int .i64 x3] 30)) (by omega) NO.out (HI.out.below B4.out))
      go_wp2_with fail
      (with_reducible refine CL.out.mono ?_)
      rintro e w5 ⟨v5, rfl, own5, hb5⟩
      obtain ⟨a5, c5, rfl, s0, s1, s2, s3, s4⟩ := own_bytes own5
      have B5 := Lib.hid (show Below w.heap.size w w5 from B2.out.trans ((B4.out.trans (hb5.mono B4.out.size)).mono B2.out.size))
      have OW5 := Lib.hid (own_below' (own_below' OW.out B3.out) (((Below.refl w3.heap.size w3).alloc (Nat.le_refl _) _).trans (hb5.mono (by simp))))
      have t0 := (B5.out.cell (p := ⟨d, 0, none⟩) hlt).trans Q0.out
      have t1 := (B5.out.frozen (p := ⟨d, 0, none⟩) hlt).trans F0.out
      have S0 := Lib.hid s0
      have S3 := Lib.hid s3
      have S4 := Lib.hid s4
      have S5 := Lib.hid (show w.heap.size ≤ (w3.alloc (Obj.cells #[.int .i64 x1, .int .i32 x2, .int .i64 x3] 30)).heap.size from Nat.le_trans B2.out.size B4.out.size)
      have hB2 := B2.out.size
      clear CL own5 hb5 s0 s3 s4
      go_wp2
      go_ret
      refine ⟨_, ks, rest, rfl, RU.out, ?_, ⟨?_, ?_, a5, c5, ?_, ?_, s1, s2, S3.out, ?_, ?_⟩, ?_, ?_⟩
      · exact own_le (ownsRow_setCell_below OW5.out (a := ⟨d, 0, none⟩) (by show d < w2.heap.size; omega) _) hB2
      · have := B5.out.size
        simp
        omega
      · go_simp
      · go_simp
      · refine S0.out.but (But.set _) ?_
        intro ad had
        have h1 := S4.out ad had
        have h2 := S5.out
        omega
      · intro ad had
        have h1 := S4.out ad had
        have h2 := S5.out
        omega
      · intro _ ad had
        exact Nat.le_trans S5.out (S4.out ad had)
      · exact (B5.out.mono (Nat.le_of_lt hlt)).setCell (by exact Nat.le_refl _) _
      · exact (But.of B5.out).trans (But.set _)
    · have en : ((n : Int) == 0) = false := beq_eq_false_iff_ne.2 (by omega)
      have fl := FL.out
      obtain ⟨a', hs, hin', hno'⟩ := slice_from a rest c n hn fl hcap NO.out
      have HI' := Lib.hid (hin' w2 HI.out)
      have NO' := Lib.hid hno'
      have SL := Lib.hid hs
      have TM := Lib.hid (Took.more _ _ _ TK.out (show (firstP rest).2 ≠ 0 by rw [← HX.out]; exact hn))
      have hdl : (rest.drop n).length = rest.length - n := by rw [List.length_drop]
      have hsl := hs
      clear hs hin' hno'
      by_cases hk : x1 = 0
      · subst hk
        have HO := Lib.hid (show one (firstP rest).1 = [] by rw [← HX.out]; rfl)
        have B4 := Lib.hid (show Below w2.heap.size w2 (w3.alloc (Obj.cells #[.int .i64 0, .int .i32 x2, .int .i64 x3] 30)) from (BE.out.trans (B3.out.mono BE.out.size)).alloc (Nat.le_trans BE.out.size B3.out.size) _)
        have O4 := Lib.hid ((own_below' OW.out B3.out).alloc (Obj.cells #[.int .i64 0, .int .i32 x2, .int .i64 x3] 30))
        go_wp2_with fail
        go_roundw
        case rel => exact ⟨ks, rest.drop n, a', c - n, by rw [hdl], by have h := TM.out; rw [HO.out, List.append_nil, ← HX.out] at h; exact h, HI'.out, by omega, by omega, NO'.out, O4.out, B4.out⟩
        case measure => (simp [lenV]; try omega)
      · have ek : (x1 != 0) = true := by simp [hk]
        have HO := Lib.hid (show one (firstP rest).1 = [⟨x1, x2, x3⟩] by rw [← HX.out]; unfold one; rw [if_neg hk])
        have B4 := Lib.hid (show Below w2.heap.size w2 (w3.alloc (Obj.cells #[.int .i64 x1, .int .i32 x2, .int .i64 x3] 30)) from (BE.out.trans (B3.out.mono BE.out.size)).alloc (Nat.le_trans BE.out.size B3.out.size) _)
        have O4 := Lib.hid ((own_below' OW.out B3.out).alloc (Obj.cells #[.int .i64 x1, .int .i32 x2, .int .i64 x3] 30))
        have O6 := Lib.hid (O4.out.alloc (Obj.cells #[.int .i64 x1, .int .i32 x2, .int .i64 x3] 30))
        have hs2 := Nat.le_trans BE.out.size B3.out.size
        have NC := Lib.hid (key_cells w3 x1 x2 x3)
        go_wp2_with (at_builtin; refine Hid.out ?_)
        refine Lib.hid ?_
        refine wpList_append_own _ rfl _ _ 26 rfl w2.heap.size 30 i2 _ 3 24 Tryd.underlying26 hi2 hy0 hy1 hy2 rfl (by decide) _ _ _ rfl O6.out ⟨w3.heap.size + 1, 0, none⟩ 1 1 [.int .i64 x1, .int .i32 x2, .int .i64 x3] rfl rfl NC.out (by intro u hu; simp at hu; rcases hu with rfl | rfl | rfl <;> rfl) (by unfold maxLen; omega) (by omega) (by simp; omega) ?_
        intro v5 w5 own5 gr5 _
        have O5 := Lib.hid own5
        have B5 := Lib.hid ((B4.out.alloc B4.out.size _).grown gr5 (by simp; omega) (fun j hj => (O4.out.lt j hj).1))
        clear own5 gr5
        go_wp2_with fail
        go_roundw
        case rel => exact ⟨ks ++ [⟨x1, x2, x3⟩], rest.drop n, a', c - n, by rw [hdl], by have h := TM.out; rw [HO.out, ← HX.out] at h; exact h, HI'.out, by omega, by omega, NO'.out, by rw [keyVals_append, List.length_append, keyVals_single]; exact O5.out, B5.out⟩
        case measure => (simp [lenV]; try omega)
end Go.Proofs.YtlmfhdkpgpjbnaaDoor
