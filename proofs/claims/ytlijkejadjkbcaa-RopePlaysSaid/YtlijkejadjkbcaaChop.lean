/- The contracts of chop and of slices.Clone; slices of slices. -/
import Derived.Test.YtlijkejadjkbcaaCount
import Derived.Lib.SliceRun
namespace Go.Proofs.Ytlijkejadjkbcaa
open Go Go.RowKit

theorem Try.info65 : (Try.prog.info? 65).map (fun i => (i.zero, i.size, i.bytes)) = some (some (.agg #[.slice none 0 0, .int .i64 0, .int .i64 0, .int .i64 0]), 4, 48) := by kernel_rfl
theorem Try.info21 : (Try.prog.info? 21).map (fun i => (i.zero, i.size, i.bytes)) = some (some (.int .i32 0), 1, 4) := by kernel_rfl
theorem add_zero' (x : Addr) : x.add 0 = x := by
  obtain ⟨b, off, sp⟩ := x
  simp [Addr.add]
theorem size22 : ∀ w : World, (sizeOf (Try.prog.elem 22)).run Try.prog w = .ok 1 w := fun _ => by kernel_rfl
theorem und22 : Try.prog.underlying 22 = some (.slice (Try.prog.elem 22)) := by kernel_rfl
theorem size52 : ∀ w : World, (sizeOf (Try.prog.elem 52)).run Try.prog w = .ok 4 w := fun _ => by kernel_rfl
theorem und52 : Try.prog.underlying 52 = some (.slice (Try.prog.elem 52)) := by kernel_rfl

/-- Runes in memory, in another block than rb. -/
def SeqB (w : World) (rb : Option Nat) (a : Option Addr) (n : Nat) (zs : List Int) : Prop :=
  zs.length = n ∧ (n = 0 ∨ ∃ b off, a = some ⟨b, off, none⟩ ∧ (∃ cur, w.heap[b]? = some (.cells cur 21 (0, 0))) ∧ rb ≠ some b ∧ ∀ j z, zs[j]? = some z → w.cell? ⟨b, off + j, none⟩ = some (.int .i32 z))
theorem SeqB.but {w w' : World} {rb : Option Nat} {a : Option Addr} {n : Nat} {zs : List Int} (h : SeqB w rb a n zs) (k : But rb w.heap.size w w') : SeqB w' rb a n zs := by
  refine ⟨h.1, ?_⟩
  rcases h.2 with h0 | ⟨b, off, rfl, hlt, hne, hc⟩
  · exact .inl h0
  · obtain ⟨cur, hcur⟩ := hlt
    have hlt := lt_of_block hcur
    exact .inr ⟨b, off, rfl, ⟨cur, (k.block _ hlt hne).trans hcur⟩, hne, fun j z hz => (k.cell (by exact hlt) (by exact hne)).trans (hc j z hz)⟩
theorem SeqB.grown {w w' : World} {rb : Option Nat} {a : Option Addr} {m B n : Nat} {zs : List Int} {v : Value} {xs : List Value} (h : SeqB w rb a m zs) (hown : w.ownsRow B 65 4 v n xs) (hg : w.grownBy w' v.ownBlock) : SeqB w' rb a m zs := by
  refine ⟨h.1, ?_⟩
  rcases h.2 with h0 | ⟨b, off, rfl, ⟨c, hc⟩, hne, hcs⟩
  · exact .inl h0
  · have hne2 : v.ownBlock ≠ some b := by
      rcases hown.2 with ⟨rfl, _⟩ | ⟨g, cap, cur, rfl, _, hh, _⟩
      · simp [Value.ownBlock]
      · intro e
        simp only [Value.ownBlock, Option.some.injEq] at e
        rw [e, hc] at hh
        simp at hh
    have hb := hg.block b (lt_of_block hc) (by intro e; exact hne2 e.symm)
    exact .inr ⟨b, off, rfl, ⟨c, hb.trans hc⟩, hne, fun j z hz => (World.cell?_of_block (w := w) hb).trans (hcs j z hz)⟩
theorem SeqB.below {w w' : World} {rb : Option Nat} {a : Option Addr} {n : Nat} {zs : List Int} (h : SeqB w rb a n zs) (k : Below w.heap.size w w') : SeqB w' rb a n zs := h.but (But.of k)
theorem SeqB.seq {w : World} {rb : Option Nat} {a : Option Addr} {n : Nat} {zs : List Int} (h : SeqB w rb a n zs) : SeqAt .i32 w a n zs := by
  refine ⟨h.1, ?_⟩
  rcases h.2 with h0 | ⟨b, off, rfl, hlt, hne, hc⟩
  · exact .inl h0
  · obtain ⟨cur, hcur⟩ := hlt
    exact .inr ⟨b, off, rfl, lt_of_block hcur, hc⟩
theorem SeqB.alloc {w : World} {rb : Option Nat} {a : Option Addr} {n : Nat} {zs : List Int} (h : SeqB w rb a n zs) (o : Obj) : SeqB (w.alloc o) rb a n zs := h.below ((Below.refl _ _).alloc (Nat.le_refl _) _)

theorem slice_to (a : Option Addr) (n cap i : Nat) (hi : i ≤ cap) (w : World) : (Instr.slice 22 (.slice a n cap) none (some (.int .i64 i)) none).run Try.prog w = .ok (.slice a i cap) w := by
  rw [run_slice_h (P := Try.prog) w 22 a n cap und22 .i64 (i : Int) (by omega) (by omega), size22]
  simp only [Result.andThen, sliced]
  have e : (if cap = 0 then a else a.map (·.add (0 * 1))) = a := by
    split
    · rfl
    · cases a with
      | none => rfl
      | some x => simp [add_zero']
  rw [e]
  simp
theorem slice_from (a : Option Addr) (n cap i : Nat) (hi : i ≤ n) (hn : n ≤ cap) : ∃ a', (∀ w : World, (Instr.slice 22 (.slice a n cap) (some (.int .i64 i)) none none).run Try.prog w = .ok (.slice a' (n - i) (cap - i)) w) ∧ ∀ w rb zs, SeqB w rb a n zs → SeqB w rb a' (n - i) (zs.drop i) := by
  refine ⟨if cap = i then a else a.map (·.add (i * 1)), fun w => ?_, fun w rb zs h => ⟨by have := h.1; simp; omega, ?_⟩⟩
  · rw [run_slice_l (P := Try.prog) w 22 a n cap und22 .i64 (i : Int) (by omega) (by omega), size22]
    simp only [Result.andThen, sliced]
    simp
  · by_cases h0 : n - i = 0
    · exact .inl h0
    · rcases h.2 with h1 | ⟨b, off, rfl, hlt, hne, hc⟩
      · omega
      · refine .inr ⟨b, off + i, ?_, hlt, hne, fun j z hz => ?_⟩
        · rw [if_neg (by omega)]
          simp [Addr.add_lit]
        · rw [List.getElem?_drop] at hz
          rw [show off + i + j = off + (i + j) by omega]
          exact hc _ _ hz

theorem nodes_from (a : Option Addr) (n cap i : Nat) (hi : i ≤ n) (hn : n ≤ cap) : ∃ a', (∀ w : World, (Instr.slice 52 (.slice a n cap) (some (.int .i64 i)) none none).run Try.prog w = .ok (.slice a' (n - i) (cap - i)) w) ∧ ∀ w rb ns, Nodes w rb a n cap ns → Nodes w rb a' (n - i) (cap - i) (ns.drop i) := by
  refine ⟨if cap = i then a else a.map (·.add (i * 4)), fun w => ?_, fun w rb ns h => ⟨by have := h.len; simp; omega, by have := h.le; omega, ?_, fun x hx => h.chunks x (List.mem_of_mem_drop hx)⟩⟩
  · rw [run_slice_l (P := Try.prog) w 52 a n cap und52 .i64 (i : Int) (by omega) (by omega), size52]
    simp only [Result.andThen, sliced]
    simp
  · by_cases h0 : n - i = 0
    · exact .inl h0
    · rcases h.row with h1 | ⟨b, off, rfl, hlt, hne, hc⟩
      · omega
      · refine .inr ⟨b, off + i * 4, ?_, hlt, hne, fun j z hz => ?_⟩
        · rw [if_neg (by omega)]
          simp [Addr.add_lit]
        · rw [flat_drop, List.getElem?_drop] at hz
          rw [show off + i * 4 + j = off + (i * 4 + j) by omega]
          exact hc _ _ hz

theorem all_drop {zs : List Int} (h : zs.all Lib.validRune = true) (k : Nat) : (zs.drop k).all Lib.validRune = true := by
  rw [List.all_eq_true] at h ⊢
  exact fun x hx => h x (List.mem_of_mem_drop hx)
theorem all_take {zs : List Int} (h : zs.all Lib.validRune = true) (k : Nat) : (zs.take k).all Lib.validRune = true := by
  rw [List.all_eq_true] at h ⊢
  exact fun x hx => h x (List.mem_of_mem_take hx)
theorem all_bounds {zs : List Int} (h : zs.all Lib.validRune = true) : ∀ z ∈ zs, -2147483648 ≤ z ∧ z ≤ 2147483647 := by
  intro z hz
  have := valid_iff (List.all_eq_true.1 h z hz)
  omega

theorem own_below {w w' : World} {B e size : Nat} {v : Value} {n : Nat} {xs : List Value} (h : w.ownsRow B e size v n xs) (hb : Below w.heap.size w w') : w'.ownsRow B e size v n xs := by
  refine ⟨h.1, ?_⟩
  rcases h.2 with h0 | ⟨g, cap, cur, rfl, hB, hg, hr⟩
  · exact .inl h0
  · exact .inr ⟨g, cap, cur, rfl, hB, (hb.block g (Array.getElem?_eq_some_iff.1 hg).1).trans hg, hr⟩

def lenV : Value → Nat
  | .slice _ n _ => n
  | _ => 0

/-- From a row of nodes that the call owns. -/
theorem own_nodes {w : World} {B : Nat} {rb : Option Nat} {v : Value} {n : Nat} {ns : List Nd} (h : w.ownsRow B 65 4 v n (flat ns)) (hrb : ∀ k, rb = some k → k < B) (hc : ∀ x ∈ ns, Chunk w rb x) : ∃ a c, v = .slice a n c ∧ Nodes w rb a n c ns := by
  have hl := h.1
  rw [flat_len] at hl
  rcases h.2 with ⟨rfl, rfl⟩ | ⟨g, cap, cur, rfl, hB, hg, hcap, _⟩
  · exact ⟨none, 0, rfl, by omega, Nat.le_refl _, .inl rfl, hc⟩
  · refine ⟨_, cap, rfl, by omega, hcap, .inr ⟨g, 0, rfl, (Array.getElem?_eq_some_iff.1 hg).1, fun e => by have := hrb _ e; omega, fun j u hu => ?_⟩, hc⟩
    have := h.cells (g := g) rfl j u hu
    rwa [Addr.add_lit] at this

theorem chunk_new {w : World} {rb : Option Nat} {b off n s : Nat} {zs : List Int} (hv : zs.all Lib.validRune = true) (hl : zs.length = n) (hs : 0 < s) (hs64 : s ≤ 64) (hsn : s ≤ n) (hlt : ∃ cur, w.heap[b]? = some (.cells cur 21 (0, 0))) (hne : rb ≠ some b) (hc : ∀ j z, zs[j]? = some z → w.cell? ⟨b, off + j, none⟩ = some (.int .i32 z)) : Chunk w rb ⟨b, off, zs.take s⟩ :=
  ⟨by simp; omega, by simp; omega, all_take hv s, hlt, hne, fun j z hz => by
    rw [List.getElem?_take] at hz
    split at hz
    · exact hc j z hz
    · cases hz⟩

set_option maxHeartbeats 2000000 in
theorem chop (rb : Option Nat) (a : Option Addr) (n cap : Nat) (zs : List Int) (w : World) (hn : n ≤ 2500) (hcap : n ≤ cap) (hv : zs.all Lib.validRune = true) (hrb : ∀ k, rb = some k → k < w.heap.size) (h : SeqB w rb a n zs) :
    Calls Try.prog 26 #[.slice a n cap] w fun e w' => ∃ a' n' c' ns, e = .returned (.slice a' n' c') ∧ Nodes w' rb a' n' c' ns ∧ text ns = zs ∧ Below w.heap.size w w' := by
  obtain ⟨i0, hi, hz0, hz1, hz2⟩ := info_parts Try.info65
  have HV := Lib.hid hv
  have HRB := Lib.hid hrb
  have H := Lib.hid h
  clear hv hrb h
  go_enter Try.func26, Try.ntmps26
  go_wp2_with fail
  go_loopw [0, 3] (fun l v wr => ∃ (k c : Nat) (a1 : Option Addr) (ns : List Nd), k ≤ n ∧ l = .slice a1 (n - k) c ∧ n - k ≤ c ∧ SeqB wr rb a1 (n - k) (zs.drop k) ∧ wr.ownsRow w.heap.size 65 4 v ns.length (flat ns) ∧ (∀ x ∈ ns, Chunk wr rb x) ∧ text ns = zs.take k ∧ Below w.heap.size w wr)
    (fun l _ _ => lenV l)
  case atStart => exact ⟨0, cap, a, [], Nat.zero_le _, rfl, hcap, H.out, World.ownsRow_nil _ _ _ _, fun x hx => by (cases hx), rfl, Below.refl _ _⟩
  case round =>
    obtain ⟨k, c, a1, ns, hk, rfl, hc, hseq, hown, hch, htx, hbel⟩ := hrel
    obtain ⟨m, hm⟩ : ∃ m, m = n - k := ⟨_, rfl⟩
    rw [← hm] at hc hseq ⊢
    by_cases hlt : 0 < m
    · have hnl : ns.length ≤ k := by
        have := text_len hch
        rw [htx] at this
        exact Nat.le_trans this (List.length_take_le _ _)
      obtain ⟨hl, h0 | ⟨b1, o1, rfl, hbty, hbne, hcell⟩⟩ := hseq
      · omega
      have hblt : b1 < wr.heap.size := by
        obtain ⟨c, h⟩ := hbty
        exact lt_of_block h
      have HS := Lib.hid (show SeqB wr rb (some ⟨b1, o1, none⟩) m (zs.drop k) from ⟨hl, .inr ⟨b1, o1, rfl, hbty, hbne, hcell⟩⟩)
      have HVk := Lib.hid (all_drop HV.out k)
      have HO := Lib.hid hown
      have CH := Lib.hid hch
      have TX := Lib.hid htx
      have hsz := hbel.size
      have HM := Lib.hid hm
      have hlt' : (0 : Int) < (m : Int) := by omega
      have hn2 : m ≤ 2500 := by omega
      have HTY := Lib.hid hbty
      clear hown hch htx hm hbty
      rcases (show m ≤ 64 ∨ 64 < m by omega) with hs | hs
      · have hmin : min (m : Int) 64 = (m : Int) := by omega
        have hs1 : ∀ w : World, (Instr.slice 22 (.slice (some ⟨b1, o1, none⟩) m c) none (some (.int .i64 m)) none).run Try.prog w = .ok (.slice (some ⟨b1, o1, none⟩) m c) w := slice_to (some ⟨b1, o1, none⟩) m c m (by omega)
        obtain ⟨a2, hs2', HD'⟩ := slice_from (some ⟨b1, o1, none⟩) m c m (by omega) hc
        have hs2 : ∀ w : World, (Instr.slice 22 (.slice (some ⟨b1, o1, none⟩) m c) (some (.int .i64 m)) none none).run Try.prog w = .ok (.slice a2 (m - m) (c - m)) w := hs2'
        have HD := Lib.hid HD'
        have X := Lib.hid (chunk_new (rb := rb) (s := m) HVk.out hl (by omega) (by omega) (by omega) HTY.out hbne hcell)
        have hxl : (List.take m (zs.drop k)).length = m := by rw [List.length_take, hl]; omega
        have N1 := newNode b1 o1 m c ((zs.drop k).take m) wr (by omega) (by omega) hblt hxl (all_bounds X.out.valid) X.out.cell
        have NN := Lib.hid N1
        clear HD' hs2' N1 hcell
        go_wp2_with fail
        (with_reducible refine NN.out.mono ?_)
        rintro e w1 ⟨rfl, b1w⟩
        have B1 := Lib.hid (hbel.trans (b1w.mono hbel.size))
        have HO1 := Lib.hid (own_below HO.out (b1w))
        have CH1 := Lib.hid (show ∀ x ∈ ns, Chunk w1 rb x from fun x hx => (CH.out x hx).but (But.of b1w))
        have X1 := Lib.hid (X.out.but (But.of b1w))
        have SQ1 := Lib.hid (HS.out.below b1w)
        have sw1 := b1w.size
        have hxc : flat [⟨b1, o1, List.take m (zs.drop k)⟩] = [.slice (some ⟨b1, o1, none⟩) m m, .int .i64 m, .int .i64 (brk (List.take m (zs.drop k))), .int .i64 (encCells (List.take m (zs.drop k))).length] := by
          rw [flat_one]; simp only [Nd.cells, hxl]; try rfl
        have HXC := Lib.hid hxc
        clear b1w hxc
        go_wp2_with (at_builtin; (refine wpList_append_own _ rfl _ _ 52 rfl w.heap.size 65 i0 _ 4 48 Try.underlying52 hi hz0 hz1 hz2 rfl (by decide) _ _ _ rfl (HO1.out.alloc _) ⟨w1.heap.size, 0, none⟩ 1 1 [.slice (some ⟨b1, o1, none⟩) m m, .int .i64 m, .int .i64 (brk (List.take m (zs.drop k))), .int .i64 (encCells (List.take m (zs.drop k))).length] rfl rfl (new_cells _ _ _) (by rw [← HXC.out]; exact cells_one _) (by unfold maxLen; omega) (by omega) (by simp; omega) ?_))
        intro v' w2 hown2 hg _
        have HO2 := Lib.hid hown2
        have CH2 := Lib.hid (show ∀ x ∈ ns ++ [⟨b1, o1, List.take m (zs.drop k)⟩], Chunk w2 rb x from fun x hx => by
          rcases List.mem_append.1 hx with h | h
          · exact ((CH1.out x h).alloc _).grown (HO1.out.alloc _) hg
          · rw [List.mem_singleton.1 h]
            exact (X1.out.alloc _).grown (HO1.out.alloc _) hg)
        have SQ2 := Lib.hid ((SQ1.out.alloc _).grown (HO1.out.alloc _) hg)
        have B2 := Lib.hid (show Below w.heap.size w w2 from (B1.out.alloc (by omega) _).grown hg (by simp; omega) (fun k hk => (HO1.out.lt k hk).1))
        clear hown2 hg
        go_wp2
        go_roundw
        case rel =>
          have hm := HM.out
          refine ⟨k + m, c - m, a2, ns ++ [⟨b1, o1, List.take m (zs.drop k)⟩], by omega, ?_, by omega, ?_, ?_, CH2.out, ?_, B2.out⟩
          · rw [show n - (k + m) = m - m by omega]
            try simp
          · have h := HD.out _ _ _ SQ2.out
            rw [List.drop_drop] at h
            rw [show n - (k + m) = m - m by omega]
            exact h
          · have h := HO2.out
            rw [← HXC.out, ← flat_append] at h
            rw [List.length_append]
            exact h
          · rw [text_append, TX.out, text_one, List.take_add]
        case measure => simp only [lenV]; omega
      · have hmin : min (m : Int) 64 = 64 := by omega
        have hs1 : ∀ w : World, (Instr.slice 22 (.slice (some ⟨b1, o1, none⟩) m c) none (some (.int .i64 64)) none).run Try.prog w = .ok (.slice (some ⟨b1, o1, none⟩) 64 c) w := slice_to (some ⟨b1, o1, none⟩) m c 64 (by omega)
        obtain ⟨a2, hs2', HD'⟩ := slice_from (some ⟨b1, o1, none⟩) m c 64 (by omega) hc
        have hs2 : ∀ w : World, (Instr.slice 22 (.slice (some ⟨b1, o1, none⟩) m c) (some (.int .i64 64)) none none).run Try.prog w = .ok (.slice a2 (m - 64) (c - 64)) w := hs2'
        have HD := Lib.hid HD'
        have X := Lib.hid (chunk_new (rb := rb) (s := 64) HVk.out hl (by omega) (by omega) (by omega) HTY.out hbne hcell)
        have hxl : (List.take 64 (zs.drop k)).length = 64 := by rw [List.length_take, hl]; omega
        have N1 := newNode b1 o1 64 c ((zs.drop k).take 64) wr (by omega) (by omega) hblt hxl (all_bounds X.out.valid) X.out.cell
        have NN := Lib.hid N1
        clear HD' hs2' N1 hcell
        go_wp2_with fail
        (with_reducible refine NN.out.mono ?_)
        rintro e w1 ⟨rfl, b1w⟩
        have B1 := Lib.hid (hbel.trans (b1w.mono hbel.size))
        have HO1 := Lib.hid (own_below HO.out (b1w))
        have CH1 := Lib.hid (show ∀ x ∈ ns, Chunk w1 rb x from fun x hx => (CH.out x hx).but (But.of b1w))
        have X1 := Lib.hid (X.out.but (But.of b1w))
        have SQ1 := Lib.hid (HS.out.below b1w)
        have sw1 := b1w.size
        have hxc : flat [⟨b1, o1, List.take 64 (zs.drop k)⟩] = [.slice (some ⟨b1, o1, none⟩) 64 64, .int .i64 64, .int .i64 (brk (List.take 64 (zs.drop k))), .int .i64 (encCells (List.take 64 (zs.drop k))).length] := by
          rw [flat_one]; simp only [Nd.cells, hxl]; try rfl
        have HXC := Lib.hid hxc
        clear b1w hxc
        go_wp2_with (at_builtin; (refine wpList_append_own _ rfl _ _ 52 rfl w.heap.size 65 i0 _ 4 48 Try.underlying52 hi hz0 hz1 hz2 rfl (by decide) _ _ _ rfl (HO1.out.alloc _) ⟨w1.heap.size, 0, none⟩ 1 1 [.slice (some ⟨b1, o1, none⟩) 64 64, .int .i64 64, .int .i64 (brk (List.take 64 (zs.drop k))), .int .i64 (encCells (List.take 64 (zs.drop k))).length] rfl rfl (new_cells _ _ _) (by rw [← HXC.out]; exact cells_one _) (by unfold maxLen; omega) (by omega) (by simp; omega) ?_))
        intro v' w2 hown2 hg _
        have HO2 := Lib.hid hown2
        have CH2 := Lib.hid (show ∀ x ∈ ns ++ [⟨b1, o1, List.take 64 (zs.drop k)⟩], Chunk w2 rb x from fun x hx => by
          rcases List.mem_append.1 hx with h | h
          · exact ((CH1.out x h).alloc _).grown (HO1.out.alloc _) hg
          · rw [List.mem_singleton.1 h]
            exact (X1.out.alloc _).grown (HO1.out.alloc _) hg)
        have SQ2 := Lib.hid ((SQ1.out.alloc _).grown (HO1.out.alloc _) hg)
        have B2 := Lib.hid (show Below w.heap.size w w2 from (B1.out.alloc (by omega) _).grown hg (by simp; omega) (fun k hk => (HO1.out.lt k hk).1))
        clear hown2 hg
        go_wp2
        go_roundw
        case rel =>
          have hm := HM.out
          refine ⟨k + 64, c - 64, a2, ns ++ [⟨b1, o1, List.take 64 (zs.drop k)⟩], by omega, ?_, by omega, ?_, ?_, CH2.out, ?_, B2.out⟩
          · rw [show n - (k + 64) = m - 64 by omega]
            try simp
          · have h := HD.out _ _ _ SQ2.out
            rw [List.drop_drop] at h
            rw [show n - (k + 64) = m - 64 by omega]
            exact h
          · have h := HO2.out
            rw [← HXC.out, ← flat_append] at h
            rw [List.length_append]
            exact h
          · rw [text_append, TX.out, text_one, List.take_add]
        case measure => simp only [lenV]; omega
    · have e : zs.take k = zs := List.take_of_length_le (by have := H.out.1; omega)
      have HO := Lib.hid hown
      have CH := Lib.hid hch
      have TX := Lib.hid htx
      have h0 : m = 0 := by omega
      have HB := Lib.hid hbel
      clear hown hch htx hseq hm hbel
      subst h0
      go_wp2
      go_ret
      obtain ⟨a', c', rfl, hN⟩ := own_nodes HO.out HRB.out CH.out
      exact ⟨a', _, c', ns, rfl, hN, by rw [TX.out, e], HB.out⟩

theorem own_seqB {w : World} {B n : Nat} {v : Value} {zs : List Int} (h : w.ownsRow B 21 1 v n (zs.map (fun x => Value.int .i32 x))) : ∃ a c, v = .slice a n c ∧ n ≤ c ∧ ∀ rb, (∀ k, rb = some k → k < B) → SeqB w rb a n zs := by
  have hl := h.1
  simp at hl
  rcases h.2 with ⟨rfl, rfl⟩ | ⟨g, cap, cur, rfl, hB, hg, hc, _⟩
  · exact ⟨none, 0, rfl, Nat.le_refl _, fun rb _ => ⟨by simpa using hl, .inl rfl⟩⟩
  · refine ⟨_, cap, rfl, hc, fun rb hrb => ⟨by omega, .inr ⟨g, 0, rfl, ⟨cur, hg⟩, fun e => by have := hrb _ e; omega, fun j z hz => ?_⟩⟩⟩
    have := h.cells (g := g) rfl j (.int .i32 z) (by simp [hz])
    rwa [Addr.add_lit] at this

theorem nil22 (a : Option Addr) (n c : Nat) (w : World) : (binOp .eql 22 (.slice a n c) (.slice none 0 0)).run Try.prog w = .ok (.bool a.isNone) w := by
  exact Lib.run_eql_slice_nil w 22 21 a n c 0 0 Try.underlying22

/-- slices.Clone: the same runes in new memory, or nil. -/
theorem clone (a : Option Addr) (n cap : Nat) (zs : List Int) (w : World) (hn : n ≤ 2500) (hno : a = none → n = 0 ∧ cap = 0) (h : SeqAt .i32 w a n zs) :
    Calls Try.prog 27 #[.slice a n cap] w fun e w' => ∃ a' c', e = .returned (.slice a' n c') ∧ n ≤ c' ∧ (∀ rb, (∀ k, rb = some k → k < w.heap.size) → SeqB w' rb a' n zs) ∧ Below w.heap.size w w' := by
  obtain ⟨i0, hi, hz0, hz1, hz2⟩ := info_parts Try.info21
  have H := Lib.hid h
  clear h
  cases a with
  | none =>
    obtain ⟨rfl, rfl⟩ := hno rfl
    have hnil := nil22 none 0 0
    simp only [Option.isNone] at hnil
    go_enter Try.func27, Try.ntmps27
    go_wp2
    go_ret
    exact ⟨none, ⟨0, rfl⟩, fun rb _ => ⟨H.out.1, .inl rfl⟩, Below.refl _ _⟩
  | some ad =>
    have HN := Lib.hid (show ∀ j u, (zs.map (fun x => Value.int .i32 x))[j]? = some u → w.cell? (ad.add j) = some u by
      intro j u hj
      rw [List.getElem?_map] at hj
      rcases H.out.2 with h0 | ⟨b, off, e, hlt, hc⟩
      · have := H.out.1
        rw [h0] at this
        rw [List.eq_nil_of_length_eq_zero this] at hj
        cases hj
      · cases e
        obtain ⟨z, hz, rfl⟩ := Option.map_eq_some_iff.1 hj
        rw [Addr.add_lit]
        exact hc j z hz)
    have HL := Lib.hid (show (zs.map (fun x => Value.int .i32 x)).length = n * 1 by have := H.out.1; simp; omega)
    have HF := Lib.hid (show ∀ o, ∀ j u, (zs.map (fun x => Value.int .i32 x))[j]? = some u → (w.alloc o).cell? (ad.add j) = some u by
      intro o j u hj
      have h1 := HN.out j u hj
      have hlt : ad.block < w.heap.size := by
        rcases H.out.2 with h0 | ⟨b, off, e, hlt, hc⟩
        · have := H.out.1
          rw [h0] at this
          rw [List.eq_nil_of_length_eq_zero this] at hj
          cases hj
        · cases e
          exact hlt
      exact (World.cell?_alloc_lt _ _ _ (by unfold Addr.add; split <;> exact hlt)).trans h1)
    have hnil := nil22 (some ad) n cap
    simp only [Option.isNone] at hnil
    go_enter Try.func27, Try.ntmps27
    go_wp2_with (at_builtin; (refine wpList_append_own _ rfl _ _ 22 rfl w.heap.size 21 i0 _ 1 4 Try.underlying22 hi hz0 hz1 hz2 rfl (by decide) _ 0 [] rfl ?_ ad n cap (zs.map (fun x => Value.int .i32 x)) rfl HL.out (HF.out _) (by intro u hu; obtain ⟨x, _, rfl⟩ := List.mem_map.1 hu; rfl) (by unfold maxLen; omega) (by omega) (by simp) ?_))
    · exact World.ownsRow_lit w #[] 0 (Nat.le_refl _) (by unfold maxLen; omega) rfl
    · intro v' w2 hown2 hg _
      have O2 := Lib.hid hown2
      have B2 := Lib.hid (show Below w.heap.size w w2 from ((Below.refl _ _).alloc (Nat.le_refl _) _).grown hg (by simp) (fun k hk => by simp [Value.ownBlock] at hk; omega))
      clear hown2 hg
      go_wp2
      go_ret
      have ho := O2.out
      obtain ⟨a', c', rfl, hc, hs⟩ := own_seqB ho
      exact ⟨a', c', rfl, hc, hs, B2.out⟩
end Go.Proofs.Ytlijkejadjkbcaa
