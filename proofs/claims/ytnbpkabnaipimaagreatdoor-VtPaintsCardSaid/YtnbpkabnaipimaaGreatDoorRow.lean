/- The contract of the reference's Row: the bytes of a row, behind bytes of the caller's own. Conditions: cells that may be painted, in memory; a row from 0 to 98. -/
import Derived.Test.YtnbpkabnaipimaaGreatDoorNumber
namespace Go.Proofs.YtnbpkabnaipimaaGreatDoor
open Go Go.RowKit

def mayR (c : Int) : Prop := c = 0 ∨ Lib.validRune c = true
theorem mayR_in {c : Int} (h : mayR c) : -2147483648 ≤ c ∧ c ≤ 2147483647 := by
  rcases h with rfl | h
  · decide
  · have := valid_iff h
    omega
theorem digits_le (n : Int) : (digits n).length ≤ 2 := by
  unfold digits
  split <;> simp
theorem encCells_one (c : Int) : encCells [c] = byV (Lib.encodeRuneZ c) := by simp [encCells, Lib.runeCells, byV]
theorem enc_le (c : Int) : (Lib.encodeRuneZ c).length ≤ 4 := by
  have := (Lib.runeCells_le c).2
  simpa [Lib.runeCells] using this
theorem styleB_le (s : Int) : (styleB s).length ≤ 10 := by
  unfold styleB
  simp only [List.length_append, List.length_cons, List.length_nil]
  repeat' split
  all_goals simp
theorem rowB_le (last : Option Int) (l : List Cl) : (rowB last l).length ≤ 14 * l.length := by
  induction l generalizing last with
  | nil => simp [rowB_nil]
  | cons c t ih =>
    have h1 := enc_le c.r
    have h2 := styleB_le c.s
    by_cases h : c.r = 0
    · rw [rowB_zero h]; have := ih last; simp only [List.length_cons]; omega
    · by_cases hs : last = some c.s
      · rw [rowB_same h hs]; have := ih (some c.s); simp only [List.length_cons, List.length_append]; omega
      · rw [rowB_new h hs]; have := ih (some c.s); simp only [List.length_cons, List.length_append]; omega
def lastI (o : Option Int) : Int := o.getD (-1)
theorem rowB_snoc {last : Option Int} {l : List Cl} {i : Nat} {c : Cl} (h : l[i]? = some c) : rowB last (l.take (i + 1)) = rowB last (l.take i) ++ rowB (lastS last (l.take i)) [c] := by
  rw [List.take_add_one, h, Option.toList_some, rowB_append]
theorem lastS_snoc {last : Option Int} {l : List Cl} {i : Nat} {c : Cl} (h : l[i]? = some c) : lastS last (l.take (i + 1)) = if c.r = 0 then lastS last (l.take i) else some c.s := by
  rw [List.take_add_one, h, Option.toList_some, lastS_append]; rfl

/-- The reference's bytes of one right rune, in new memory, as a slice that is not nil. -/
theorem refEncode1 (b off cap : Nat) (c : Int) (w : World) (hb : b < w.heap.size) (hc : w.cell? ⟨b, off, none⟩ = some (.int .i32 c)) :
    Calls Tryz.prog 37 #[.slice (some ⟨b, off, none⟩) 1 cap] w fun e w' => ∃ g k, e = .returned (.slice (some ⟨g, 0, none⟩) (Lib.encodeRuneZ c).length k) ∧ (∀ j u, (byV (Lib.encodeRuneZ c))[j]? = some u → w'.cell? ((⟨g, 0, none⟩ : Addr).add j) = some u) ∧ Below w.heap.size w w' := by
  refine (refEncode (some ⟨b, off, none⟩) 1 cap [c] w (by omega) ⟨rfl, .inr ⟨b, off, rfl, hb, fun j z hz => ?_⟩⟩).mono ?_
  · match j, hz with
    | 0, hz => cases hz; exact hc
    | j + 1, hz => cases hz
  · rintro e w' ⟨v, rfl, ho, hbel⟩
    rw [encCells_one, byV_len] at ho
    rcases ho.2 with ⟨rfl, h0⟩ | ⟨g, k, cur, rfl, hr⟩
    · exfalso
      exact encode_ne c (List.eq_nil_of_length_eq_zero h0)
    · exact ⟨g, k, rfl, ho.cells (g := g) rfl, hbel⟩

/-- What is behind the bytes of the caller's own. -/
theorem own_as {w : World} {B n : Nat} {v : Value} {xs ys : List Value} (h : w.ownsRow B 5 1 v n xs) (e : xs = ys) : w.ownsRow B 5 1 v ys.length ys := by
  have := h.1
  subst e
  rw [this]
  simpa using h
theorem keep_block {B m b t : Nat} {v : Value} {xs : List Value} {w w2 : World} {o : Obj} {cs : Array Value} {fr : Nat × Nat} (hO : w.ownsRow B 5 1 v m xs) (hb : w.heap[b]? = some (Obj.cells cs t fr)) (ht : t ≠ 5) (hg : (w.alloc o).grownBy w2 v.ownBlock) : w2.heap[b]? = some (Obj.cells cs t fr) := by
  have hlt := lt_of_block hb
  have h1 : (w.alloc o).heap[b]? = some (Obj.cells cs t fr) := by rw [((Below.refl _ _).alloc (Nat.le_refl _) o : Below w.heap.size w (w.alloc o)).block b hlt]; exact hb
  rw [hg.block b (lt_of_block h1) fun e => ?_]
  · exact h1
  · rcases hO.2 with ⟨rfl, _⟩ | ⟨g, cap, cur, rfl, _, hh, _⟩
    · cases e
    · simp only [Value.ownBlock, Option.some.injEq] at e
      subst e
      rw [hb] at hh
      simp at hh
      exact ht hh.2.1
theorem at_block {b t : Nat} {w : World} {x s : Int} {fr : Nat × Nat} (hb : w.heap[b]? = some (Obj.cells #[.int .i32 x, .int .i64 s] t fr)) : w.cell? ⟨b, 0, none⟩ = some (.int .i32 x) ∧ w.cell? ⟨b, 1, none⟩ = some (.int .i64 s) :=
  ⟨by rw [cell_of_row w b 0 _ t fr hb]; rfl, by rw [cell_of_row w b 1 _ t fr hb]; rfl⟩
theorem grow_below0 {B m : Nat} {v : Value} {xs : List Value} {w w2 : World} (hO : w.ownsRow B 5 1 v m xs) (hB : B ≤ w.heap.size) (hg : w.grownBy w2 v.ownBlock) : Below B w w2 :=
  (Below.refl _ _).grown hg hB (fun k hk => (hO.lt k hk).1)

/-- The row, as far as it is written. -/
def sofar (xs : List Value) (r : Int) (l : List Cl) (k : Nat) : List Value := xs ++ byV (headB r ++ rowB none (l.take k))
theorem sofar_le (xs : List Value) (r : Int) (l : List Cl) (k : Nat) : (sofar xs r l k).length ≤ xs.length + 7 + 14 * k := by
  have h1 := rowB_le none (l.take k)
  have h2 := digits_le (r + 1)
  have h3 := List.length_take_le k l
  simp only [sofar, List.length_append, byV_len, headB, List.length_cons, List.length_nil]
  omega
theorem sofar_zero {xs : List Value} {r : Int} {l : List Cl} {k : Nat} {c : Cl} (h : l[k]? = some c) (h0 : c.r = 0) : sofar xs r l (k + 1) = sofar xs r l k := by
  unfold sofar
  rw [rowB_snoc h, rowB_zero h0, rowB_nil, List.append_nil]
theorem sofar_same {xs : List Value} {r : Int} {l : List Cl} {k : Nat} {c : Cl} (h : l[k]? = some c) (h0 : c.r ≠ 0) (hs : lastS none (l.take k) = some c.s) : sofar xs r l k ++ byV (Lib.encodeRuneZ c.r) = sofar xs r l (k + 1) := by
  unfold sofar
  rw [rowB_snoc h, rowB_same h0 hs, rowB_nil, List.append_nil]
  simp only [byV_append, List.append_assoc]
theorem sofar_new {xs : List Value} {r : Int} {l : List Cl} {k : Nat} {c : Cl} (h : l[k]? = some c) (h0 : c.r ≠ 0) (hs : lastS none (l.take k) ≠ some c.s) : sofar xs r l k ++ byV (styleB c.s) ++ byV (Lib.encodeRuneZ c.r) = sofar xs r l (k + 1) := by
  unfold sofar
  rw [rowB_snoc h, rowB_new h0 hs, rowB_nil, List.append_nil]
  simp only [byV_append, List.append_assoc]
theorem last_ne {o : Option Int} {s : Int} (h : o ≠ some s) (hs : 0 ≤ s) : ¬ s = lastI o := by
  cases o with
  | none => simp [lastI]; omega
  | some x => simp [lastI] at h ⊢; omega

set_option maxHeartbeats 8000000 in
set_option maxRecDepth 20000 in
theorem row (B : Nat) (v : Value) (m : Nat) (xs : List Value) (r : Int) (h0 : 0 ≤ r) (h98 : r ≤ 98) (b off n cap : Nat) (l : List Cl) (hl : l.length = n) (hn : n ≤ 1000) (w : World) (hbB : b < B) (hB : B ≤ w.heap.size)
    (hc : ∀ j u, (flat l)[j]? = some u → w.cell? ⟨b, off + j, none⟩ = some u) (hall : ∀ c ∈ l, mayR c.r ∧ 0 ≤ c.s ∧ c.s ≤ 7) (hown : w.ownsRow B 5 1 v m xs) (hm : m ≤ 1099511627776) :
    Calls Tryz.prog 21 #[v, .int .i64 r, .slice (some ⟨b, off, none⟩) n cap] w fun e w' => ∃ v', e = .returned v' ∧ w'.ownsRow B 5 1 v' (xs ++ byV (headB r ++ rowB none l)).length (xs ++ byV (headB r ++ rowB none l)) ∧ Below B w w' := by
  obtain ⟨i0, hi, hz0, hz1, hz2⟩ := info_parts Tryz.info5
  have hxm : xs.length = m := by have := hown.1; omega
  have HO := Lib.hid hown; clear hown
  have HC := Lib.hid hc; clear hc
  have HL := Lib.hid hl; clear hl
  have HA := Lib.hid hall; clear hall
  have hd2 := digits_le (r + 1)
  go_enter Tryz.func21, Tryz.ntmps21
  go_wp2_with (at_builtin; refine wpList_append_own _ rfl _ _ 26 rfl B 5 i0 (.int .u8 0) 1 1 Tryz.underlying26 hi hz0 hz1 hz2 rfl (by decide) _ _ _ rfl (HO.out.alloc _) ⟨w.heap.size, 0, none⟩ 2 2 (byV [27, 91]) rfl rfl (new_cells _ _ _) (byV_one _) (by unfold maxLen; omega) (by omega) (by simp; omega) ?_)
  intro v1 w1 hown' hg _
  have hb1 := grow_below HO.out (by omega) hg
  have HO1 := Lib.hid hown'
  clear hown' hg
  have hs1 := hb1.size
  go_wp2_with (first
    | (go_at_call 36; refine (number B _ _ _ _ (by omega) (by omega) _ HO1.out (by omega) (by omega)).mono ?_; rintro e w2 ⟨v2, rfl, hown2, hb2⟩; have HO2 := Lib.hid hown2; have HB2 := Lib.hid hb2; have hs2 := hb2.size; clear hown2 hb2)
    | (at_builtin; refine wpList_append_own _ rfl _ _ 26 rfl B 5 i0 (.int .u8 0) 1 1 Tryz.underlying26 hi hz0 hz1 hz2 rfl (by decide) _ _ _ rfl (HO2.out.alloc _) ⟨w2.heap.size, 0, none⟩ 3 3 (byV [59, 49, 72]) rfl rfl (new_cells _ _ _) (byV_one _) (by unfold maxLen; omega) (by omega) (by simp; omega) ?_))
  intro v3 w3 hown' hg _
  have hb3 := grow_below HO2.out (by omega) hg
  have HO3 := Lib.hid (own_as (ys := sofar xs r l 0) hown' (by simp only [sofar, headB, List.take_zero, rowB_nil, List.append_nil, byV_append, List.append_assoc]))
  have HB := Lib.hid (hb1.trans (HB2.out.trans hb3))
  clear hown' hg hb1 HB2 hb3 HO1 HO2 hs1 hs2
  go_wp2
  go_loopw [0, 7, 8] (fun o la i wr => ∃ k : Nat, k ≤ n ∧ i = .int .i64 k ∧ la = .int .i64 (lastI (lastS none (l.take k))) ∧ wr.ownsRow B 5 1 o (sofar xs r l k).length (sofar xs r l k) ∧ Below B w wr)
    (fun _ _ i _ => n - (intOf i).toNat)
  case atStart => exact ⟨0, Nat.zero_le _, rfl, rfl, HO3.out, HB.out⟩
  case round =>
    clear HO3 HB HO
    obtain ⟨k, hk, rfl, rfl, hown, hbel⟩ := hrel
    have hsz := hbel.size
    have hle := sofar_le xs r l k
    by_cases hlt : k < n
    · obtain ⟨c, hck⟩ : ∃ c, l[k]? = some c := ⟨l[k]'(by have := HL.out; omega), by simp⟩
      obtain ⟨hmay, hs0, hs7⟩ := HA.out c (List.mem_of_getElem? hck)
      have hin := mayR_in hmay
      obtain ⟨c0, c1⟩ := clCells (w := w) HC.out k c hck
      have c0' : wr.cell? ⟨b, off + k * 2, none⟩ = some (.int .i32 c.r) := (hbel.cell (by exact hbB)).trans c0
      have c1' : wr.cell? ⟨b, off + k * 2 + 1, none⟩ = some (.int .i64 c.s) := (hbel.cell (by exact hbB)).trans c1
      clear c0 c1
      have HK := Lib.hid hck
      have HM := Lib.hid hmay
      have HOk := Lib.hid hown
      have HBk := Lib.hid hbel
      clear hck hmay hown hbel
      obtain ⟨x, s⟩ := c
      simp only at c0' c1' hs0 hs7 hin
      by_cases hx : x = 0
      · subst hx
        go_wp2
        go_roundw
        case rel => exact ⟨k + 1, by omega, by go_num, by rw [lastS_snoc HK.out, if_pos rfl], by rw [sofar_zero HK.out rfl]; exact own_below HOk.out ((Below.refl _ _).alloc (Nat.le_refl _) _), HBk.out.alloc (by omega) _⟩
        case measure => simp [intOf]; omega
      · have hv : Lib.validRune x = true := HM.out.resolve_left hx
        have hel := enc_le x
        have HV := Lib.hid hv
        clear hv
        by_cases hs : lastS none (l.take k) = some s
        · have hls : lastI (lastS none (l.take k)) = s := by rw [hs]; rfl
          rw [hls]
          have HS := Lib.hid hs
          clear hs hls
          have HOa := Lib.hid (own_below HOk.out ((Below.refl _ _).alloc (Nat.le_refl _) (Obj.cells #[.int .i32 x, .int .i64 s] 46)))
          go_wp2_with (first
            | (go_at_call 37; refine (refEncode1 _ _ _ x _ (by simp) (by simp)).mono ?_; rintro e w2 ⟨g, kk, rfl, hcg, hbe⟩; have HG := Lib.hid hcg; have HE := Lib.hid (((Below.refl B wr).alloc (by omega) (Obj.cells #[.int .i32 x, .int .i64 s] 46)).alloc (by simp; omega) (Obj.cells #[.int .i32 x] 21) |>.trans (hbe.mono (by simp; omega))); have hs2 : wr.heap.size ≤ w2.heap.size := (by have := hbe.size; simp at this; omega); have HO2 := Lib.hid (own_below HOa.out ((((Below.refl _ _).alloc (Nat.le_refl _) _).trans (hbe.mono (by simp))))); clear hcg hbe)
            | (at_builtin; refine wpList_append_own _ rfl _ _ 26 rfl B 5 i0 (.int .u8 0) 1 1 Tryz.underlying26 hi hz0 hz1 hz2 rfl (by decide) _ _ _ rfl HO2.out ⟨g, 0, none⟩ (Lib.encodeRuneZ x).length kk (byV (Lib.encodeRuneZ x)) rfl (by simp [byV]) HG.out (byV_one _) (by unfold maxLen; omega) (by omega) (by omega) ?_))
          intro v4 w4 hown' hg _
          have hb4 := grow_below0 HO2.out (by omega) hg
          have HO4 := Lib.hid (own_as hown' (sofar_same HK.out hx HS.out))
          have HB4 := Lib.hid (HBk.out.trans (HE.out.trans hb4))
          have hs4 := hb4.size
          clear hown' hg hb4 HO2 HE HG HOk HOa HBk
          go_wp2
          go_roundw
          case rel => exact ⟨k + 1, by omega, by go_num, by rw [lastS_snoc HK.out, if_neg hx]; rfl, HO4.out, HB4.out⟩
          case measure => simp [intOf]; omega
        · have hla := last_ne hs hs0
          have HS := Lib.hid hs
          generalize lastI (lastS none (l.take k)) = la at *
          clear hs
          have hbk : (wr.alloc (Obj.cells #[.int .i32 x, .int .i64 s] 46)).heap[wr.heap.size]? = some (Obj.cells #[.int .i32 x, .int .i64 s] 46) := heap_alloc_new wr _
          have HBK := Lib.hid hbk
          clear hbk
          have HOa := Lib.hid (own_below HOk.out ((Below.refl _ _).alloc (Nat.le_refl _) (Obj.cells #[.int .i32 x, .int .i64 s] 46)))
          have HBa := Lib.hid (HBk.out.alloc (by omega) (Obj.cells #[.int .i32 x, .int .i64 s] 46))
          clear HOk HBk
          rcases (show s = 0 ∨ s = 1 ∨ s = 2 ∨ s = 3 ∨ s = 4 ∨ s = 5 ∨ s = 6 ∨ s = 7 by omega) with rfl | rfl | rfl | rfl | rfl | rfl | rfl | rfl
          · have hn : (wr.alloc (Obj.cells #[.int .i32 x, .int .i64 0] 46)).heap.size = wr.heap.size + 1 := by simp
            have HN : Hid (∀ j u, (byV [27, 91, 48])[j]? = some u → ((wr.alloc (Obj.cells #[.int .i32 x, .int .i64 0] 46)).alloc (Obj.cells #[.int .u8 27, .int .u8 91, .int .u8 48] 5)).cell? ((⟨wr.heap.size + 1, 0, none⟩ : Addr).add j) = some u) := Lib.hid (by rw [← hn]; exact new_cells _ _ _)
            clear hn
            go_wp2_with (at_builtin; refine wpList_append_own _ rfl _ _ 26 rfl B 5 i0 (.int .u8 0) 1 1 Tryz.underlying26 hi hz0 hz1 hz2 rfl (by decide) _ _ _ rfl (HOa.out.alloc _) ⟨wr.heap.size + 1, 0, none⟩ 3 3 (byV [27, 91, 48]) rfl rfl HN.out (byV_one _) (by unfold maxLen; omega) (by omega) (by simp; omega) ?_)
            intro v10 w10 hown' hg _
            have hb' := grow_below HOa.out (by simp; omega) hg
            have HB10 := Lib.hid (HBa.out.trans hb')
            have hs10 : wr.heap.size + 1 ≤ w10.heap.size := by have := hb'.size; simp at this; omega
            have HBK10 := Lib.hid (keep_block HOa.out HBK.out (by decide) hg)
            have HO10 := Lib.hid hown'
            obtain ⟨ca10, cb10⟩ := at_block HBK10.out
            clear hown' hg hb' HOa HBa HBK HN
            go_wp2_with (at_builtin; refine wpList_append_own _ rfl _ _ 26 rfl B 5 i0 (.int .u8 0) 1 1 Tryz.underlying26 hi hz0 hz1 hz2 rfl (by decide) _ _ _ rfl (HO10.out.alloc _) ⟨w10.heap.size, 0, none⟩ 1 1 (byV [109]) rfl rfl (new_cells _ _ _) (byV_one _) (by unfold maxLen; omega) (by omega) (by simp; omega) ?_)
            intro v11 w11 hown' hg _
            have hb' := grow_below HO10.out (by omega) hg
            have HB11 := Lib.hid (HB10.out.trans hb')
            have hs11 : wr.heap.size + 1 ≤ w11.heap.size := by have := hb'.size; omega
            have HBK11 := Lib.hid (keep_block HO10.out HBK10.out (by decide) hg)
            have HO11 := Lib.hid hown'
            obtain ⟨ca11, cb11⟩ := at_block HBK11.out
            clear hown' hg hb' HO10 HB10 HBK10 ca10 cb10 hs10
            go_wp2_with (first
              | (go_at_call 37; refine (refEncode1 _ _ _ x _ (by simp) (by simp)).mono ?_; rintro e w2 ⟨g, kk, rfl, hcg, hbe⟩; have HG := Lib.hid hcg; have HE := Lib.hid ((Below.refl B w11).alloc (by omega) (Obj.cells #[.int .i32 x] 21) |>.trans (hbe.mono (by simp; omega))); have hs2 : w11.heap.size ≤ w2.heap.size := (by have := hbe.size; simp at this; omega); have HO2 := Lib.hid (own_below HO11.out ((((Below.refl _ _).alloc (Nat.le_refl _) _).trans (hbe.mono (by simp))))); clear hcg hbe)
              | (at_builtin; refine wpList_append_own _ rfl _ _ 26 rfl B 5 i0 (.int .u8 0) 1 1 Tryz.underlying26 hi hz0 hz1 hz2 rfl (by decide) _ _ _ rfl HO2.out ⟨g, 0, none⟩ (Lib.encodeRuneZ x).length kk (byV (Lib.encodeRuneZ x)) rfl (by simp [byV]) HG.out (byV_one _) (by unfold maxLen; omega) (by omega) (by omega) ?_))
            intro v4 w4 hown' hg _
            have hb4 := grow_below0 HO2.out (by omega) hg
            have HO4 := Lib.hid (own_as hown' (ys := sofar xs r l (k + 1)) (by rw [← sofar_new HK.out hx HS.out, show styleB 0 = [27, 91, 48] ++ [109] from by decide]; simp only [byV_append, List.append_assoc]))
            have HB4 := Lib.hid (HB11.out.trans (HE.out.trans hb4))
            have hs4 := hb4.size
            clear hown' hg hb4 HO2 HE HG HO11 HB11 HBK11
            go_wp2
            go_roundw
            case rel => exact ⟨k + 1, by omega, by go_num, by rw [lastS_snoc HK.out, if_neg hx]; rfl, HO4.out, HB4.out⟩
            case measure => simp [intOf]; omega
          · have hn : (wr.alloc (Obj.cells #[.int .i32 x, .int .i64 1] 46)).heap.size = wr.heap.size + 1 := by simp
            have HN : Hid (∀ j u, (byV [27, 91, 48])[j]? = some u → ((wr.alloc (Obj.cells #[.int .i32 x, .int .i64 1] 46)).alloc (Obj.cells #[.int .u8 27, .int .u8 91, .int .u8 48] 5)).cell? ((⟨wr.heap.size + 1, 0, none⟩ : Addr).add j) = some u) := Lib.hid (by rw [← hn]; exact new_cells _ _ _)
            clear hn
            go_wp2_with (at_builtin; refine wpList_append_own _ rfl _ _ 26 rfl B 5 i0 (.int .u8 0) 1 1 Tryz.underlying26 hi hz0 hz1 hz2 rfl (by decide) _ _ _ rfl (HOa.out.alloc _) ⟨wr.heap.size + 1, 0, none⟩ 3 3 (byV [27, 91, 48]) rfl rfl HN.out (byV_one _) (by unfold maxLen; omega) (by omega) (by simp; omega) ?_)
            intro v10 w10 hown' hg _
            have hb' := grow_below HOa.out (by simp; omega) hg
            have HB10 := Lib.hid (HBa.out.trans hb')
            have hs10 : wr.heap.size + 1 ≤ w10.heap.size := by have := hb'.size; simp at this; omega
            have HBK10 := Lib.hid (keep_block HOa.out HBK.out (by decide) hg)
            have HO10 := Lib.hid hown'
            obtain ⟨ca10, cb10⟩ := at_block HBK10.out
            clear hown' hg hb' HOa HBa HBK HN
            go_wp2_with (at_builtin; refine wpList_append_own _ rfl _ _ 26 rfl B 5 i0 (.int .u8 0) 1 1 Tryz.underlying26 hi hz0 hz1 hz2 rfl (by decide) _ _ _ rfl (HO10.out.alloc _) ⟨w10.heap.size, 0, none⟩ 2 2 (byV [59, 55]) rfl rfl (new_cells _ _ _) (byV_one _) (by unfold maxLen; omega) (by omega) (by simp; omega) ?_)
            intro v11 w11 hown' hg _
            have hb' := grow_below HO10.out (by omega) hg
            have HB11 := Lib.hid (HB10.out.trans hb')
            have hs11 : wr.heap.size + 1 ≤ w11.heap.size := by have := hb'.size; omega
            have HBK11 := Lib.hid (keep_block HO10.out HBK10.out (by decide) hg)
            have HO11 := Lib.hid hown'
            obtain ⟨ca11, cb11⟩ := at_block HBK11.out
            clear hown' hg hb' HO10 HB10 HBK10 ca10 cb10 hs10
            go_wp2_with (at_builtin; refine wpList_append_own _ rfl _ _ 26 rfl B 5 i0 (.int .u8 0) 1 1 Tryz.underlying26 hi hz0 hz1 hz2 rfl (by decide) _ _ _ rfl (HO11.out.alloc _) ⟨w11.heap.size, 0, none⟩ 1 1 (byV [109]) rfl rfl (new_cells _ _ _) (byV_one _) (by unfold maxLen; omega) (by omega) (by simp; omega) ?_)
            intro v12 w12 hown' hg _
            have hb' := grow_below HO11.out (by omega) hg
            have HB12 := Lib.hid (HB11.out.trans hb')
            have hs12 : wr.heap.size + 1 ≤ w12.heap.size := by have := hb'.size; omega
            have HBK12 := Lib.hid (keep_block HO11.out HBK11.out (by decide) hg)
            have HO12 := Lib.hid hown'
            obtain ⟨ca12, cb12⟩ := at_block HBK12.out
            clear hown' hg hb' HO11 HB11 HBK11 ca11 cb11 hs11
            go_wp2_with (first
              | (go_at_call 37; refine (refEncode1 _ _ _ x _ (by simp) (by simp)).mono ?_; rintro e w2 ⟨g, kk, rfl, hcg, hbe⟩; have HG := Lib.hid hcg; have HE := Lib.hid ((Below.refl B w12).alloc (by omega) (Obj.cells #[.int .i32 x] 21) |>.trans (hbe.mono (by simp; omega))); have hs2 : w12.heap.size ≤ w2.heap.size := (by have := hbe.size; simp at this; omega); have HO2 := Lib.hid (own_below HO12.out ((((Below.refl _ _).alloc (Nat.le_refl _) _).trans (hbe.mono (by simp))))); clear hcg hbe)
              | (at_builtin; refine wpList_append_own _ rfl _ _ 26 rfl B 5 i0 (.int .u8 0) 1 1 Tryz.underlying26 hi hz0 hz1 hz2 rfl (by decide) _ _ _ rfl HO2.out ⟨g, 0, none⟩ (Lib.encodeRuneZ x).length kk (byV (Lib.encodeRuneZ x)) rfl (by simp [byV]) HG.out (byV_one _) (by unfold maxLen; omega) (by omega) (by omega) ?_))
            intro v4 w4 hown' hg _
            have hb4 := grow_below0 HO2.out (by omega) hg
            have HO4 := Lib.hid (own_as hown' (ys := sofar xs r l (k + 1)) (by rw [← sofar_new HK.out hx HS.out, show styleB 1 = [27, 91, 48] ++ [59, 55] ++ [109] from by decide]; simp only [byV_append, List.append_assoc]))
            have HB4 := Lib.hid (HB12.out.trans (HE.out.trans hb4))
            have hs4 := hb4.size
            clear hown' hg hb4 HO2 HE HG HO12 HB12 HBK12
            go_wp2
            go_roundw
            case rel => exact ⟨k + 1, by omega, by go_num, by rw [lastS_snoc HK.out, if_neg hx]; rfl, HO4.out, HB4.out⟩
            case measure => simp [intOf]; omega
          · have hn : (wr.alloc (Obj.cells #[.int .i32 x, .int .i64 2] 46)).heap.size = wr.heap.size + 1 := by simp
            have HN : Hid (∀ j u, (byV [27, 91, 48])[j]? = some u → ((wr.alloc (Obj.cells #[.int .i32 x, .int .i64 2] 46)).alloc (Obj.cells #[.int .u8 27, .int .u8 91, .int .u8 48] 5)).cell? ((⟨wr.heap.size + 1, 0, none⟩ : Addr).add j) = some u) := Lib.hid (by rw [← hn]; exact new_cells _ _ _)
            clear hn
            go_wp2_with (at_builtin; refine wpList_append_own _ rfl _ _ 26 rfl B 5 i0 (.int .u8 0) 1 1 Tryz.underlying26 hi hz0 hz1 hz2 rfl (by decide) _ _ _ rfl (HOa.out.alloc _) ⟨wr.heap.size + 1, 0, none⟩ 3 3 (byV [27, 91, 48]) rfl rfl HN.out (byV_one _) (by unfold maxLen; omega) (by omega) (by simp; omega) ?_)
            intro v10 w10 hown' hg _
            have hb' := grow_below HOa.out (by simp; omega) hg
            have HB10 := Lib.hid (HBa.out.trans hb')
            have hs10 : wr.heap.size + 1 ≤ w10.heap.size := by have := hb'.size; simp at this; omega
            have HBK10 := Lib.hid (keep_block HOa.out HBK.out (by decide) hg)
            have HO10 := Lib.hid hown'
            obtain ⟨ca10, cb10⟩ := at_block HBK10.out
            clear hown' hg hb' HOa HBa HBK HN
            go_wp2_with (at_builtin; refine wpList_append_own _ rfl _ _ 26 rfl B 5 i0 (.int .u8 0) 1 1 Tryz.underlying26 hi hz0 hz1 hz2 rfl (by decide) _ _ _ rfl (HO10.out.alloc _) ⟨w10.heap.size, 0, none⟩ 2 2 (byV [59, 52]) rfl rfl (new_cells _ _ _) (byV_one _) (by unfold maxLen; omega) (by omega) (by simp; omega) ?_)
            intro v11 w11 hown' hg _
            have hb' := grow_below HO10.out (by omega) hg
            have HB11 := Lib.hid (HB10.out.trans hb')
            have hs11 : wr.heap.size + 1 ≤ w11.heap.size := by have := hb'.size; omega
            have HBK11 := Lib.hid (keep_block HO10.out HBK10.out (by decide) hg)
            have HO11 := Lib.hid hown'
            obtain ⟨ca11, cb11⟩ := at_block HBK11.out
            clear hown' hg hb' HO10 HB10 HBK10 ca10 cb10 hs10
            go_wp2_with (at_builtin; refine wpList_append_own _ rfl _ _ 26 rfl B 5 i0 (.int .u8 0) 1 1 Tryz.underlying26 hi hz0 hz1 hz2 rfl (by decide) _ _ _ rfl (HO11.out.alloc _) ⟨w11.heap.size, 0, none⟩ 1 1 (byV [109]) rfl rfl (new_cells _ _ _) (byV_one _) (by unfold maxLen; omega) (by omega) (by simp; omega) ?_)
            intro v12 w12 hown' hg _
            have hb' := grow_below HO11.out (by omega) hg
            have HB12 := Lib.hid (HB11.out.trans hb')
            have hs12 : wr.heap.size + 1 ≤ w12.heap.size := by have := hb'.size; omega
            have HBK12 := Lib.hid (keep_block HO11.out HBK11.out (by decide) hg)
            have HO12 := Lib.hid hown'
            obtain ⟨ca12, cb12⟩ := at_block HBK12.out
            clear hown' hg hb' HO11 HB11 HBK11 ca11 cb11 hs11
            go_wp2_with (first
              | (go_at_call 37; refine (refEncode1 _ _ _ x _ (by simp) (by simp)).mono ?_; rintro e w2 ⟨g, kk, rfl, hcg, hbe⟩; have HG := Lib.hid hcg; have HE := Lib.hid ((Below.refl B w12).alloc (by omega) (Obj.cells #[.int .i32 x] 21) |>.trans (hbe.mono (by simp; omega))); have hs2 : w12.heap.size ≤ w2.heap.size := (by have := hbe.size; simp at this; omega); have HO2 := Lib.hid (own_below HO12.out ((((Below.refl _ _).alloc (Nat.le_refl _) _).trans (hbe.mono (by simp))))); clear hcg hbe)
              | (at_builtin; refine wpList_append_own _ rfl _ _ 26 rfl B 5 i0 (.int .u8 0) 1 1 Tryz.underlying26 hi hz0 hz1 hz2 rfl (by decide) _ _ _ rfl HO2.out ⟨g, 0, none⟩ (Lib.encodeRuneZ x).length kk (byV (Lib.encodeRuneZ x)) rfl (by simp [byV]) HG.out (byV_one _) (by unfold maxLen; omega) (by omega) (by omega) ?_))
            intro v4 w4 hown' hg _
            have hb4 := grow_below0 HO2.out (by omega) hg
            have HO4 := Lib.hid (own_as hown' (ys := sofar xs r l (k + 1)) (by rw [← sofar_new HK.out hx HS.out, show styleB 2 = [27, 91, 48] ++ [59, 52] ++ [109] from by decide]; simp only [byV_append, List.append_assoc]))
            have HB4 := Lib.hid (HB12.out.trans (HE.out.trans hb4))
            have hs4 := hb4.size
            clear hown' hg hb4 HO2 HE HG HO12 HB12 HBK12
            go_wp2
            go_roundw
            case rel => exact ⟨k + 1, by omega, by go_num, by rw [lastS_snoc HK.out, if_neg hx]; rfl, HO4.out, HB4.out⟩
            case measure => simp [intOf]; omega
          · have hn : (wr.alloc (Obj.cells #[.int .i32 x, .int .i64 3] 46)).heap.size = wr.heap.size + 1 := by simp
            have HN : Hid (∀ j u, (byV [27, 91, 48])[j]? = some u → ((wr.alloc (Obj.cells #[.int .i32 x, .int .i64 3] 46)).alloc (Obj.cells #[.int .u8 27, .int .u8 91, .int .u8 48] 5)).cell? ((⟨wr.heap.size + 1, 0, none⟩ : Addr).add j) = some u) := Lib.hid (by rw [← hn]; exact new_cells _ _ _)
            clear hn
            go_wp2_with (at_builtin; refine wpList_append_own _ rfl _ _ 26 rfl B 5 i0 (.int .u8 0) 1 1 Tryz.underlying26 hi hz0 hz1 hz2 rfl (by decide) _ _ _ rfl (HOa.out.alloc _) ⟨wr.heap.size + 1, 0, none⟩ 3 3 (byV [27, 91, 48]) rfl rfl HN.out (byV_one _) (by unfold maxLen; omega) (by omega) (by simp; omega) ?_)
            intro v10 w10 hown' hg _
            have hb' := grow_below HOa.out (by simp; omega) hg
            have HB10 := Lib.hid (HBa.out.trans hb')
            have hs10 : wr.heap.size + 1 ≤ w10.heap.size := by have := hb'.size; simp at this; omega
            have HBK10 := Lib.hid (keep_block HOa.out HBK.out (by decide) hg)
            have HO10 := Lib.hid hown'
            obtain ⟨ca10, cb10⟩ := at_block HBK10.out
            clear hown' hg hb' HOa HBa HBK HN
            go_wp2_with (at_builtin; refine wpList_append_own _ rfl _ _ 26 rfl B 5 i0 (.int .u8 0) 1 1 Tryz.underlying26 hi hz0 hz1 hz2 rfl (by decide) _ _ _ rfl (HO10.out.alloc _) ⟨w10.heap.size, 0, none⟩ 2 2 (byV [59, 55]) rfl rfl (new_cells _ _ _) (byV_one _) (by unfold maxLen; omega) (by omega) (by simp; omega) ?_)
            intro v11 w11 hown' hg _
            have hb' := grow_below HO10.out (by omega) hg
            have HB11 := Lib.hid (HB10.out.trans hb')
            have hs11 : wr.heap.size + 1 ≤ w11.heap.size := by have := hb'.size; omega
            have HBK11 := Lib.hid (keep_block HO10.out HBK10.out (by decide) hg)
            have HO11 := Lib.hid hown'
            obtain ⟨ca11, cb11⟩ := at_block HBK11.out
            clear hown' hg hb' HO10 HB10 HBK10 ca10 cb10 hs10
            go_wp2_with (at_builtin; refine wpList_append_own _ rfl _ _ 26 rfl B 5 i0 (.int .u8 0) 1 1 Tryz.underlying26 hi hz0 hz1 hz2 rfl (by decide) _ _ _ rfl (HO11.out.alloc _) ⟨w11.heap.size, 0, none⟩ 2 2 (byV [59, 52]) rfl rfl (new_cells _ _ _) (byV_one _) (by unfold maxLen; omega) (by omega) (by simp; omega) ?_)
            intro v12 w12 hown' hg _
            have hb' := grow_below HO11.out (by omega) hg
            have HB12 := Lib.hid (HB11.out.trans hb')
            have hs12 : wr.heap.size + 1 ≤ w12.heap.size := by have := hb'.size; omega
            have HBK12 := Lib.hid (keep_block HO11.out HBK11.out (by decide) hg)
            have HO12 := Lib.hid hown'
            obtain ⟨ca12, cb12⟩ := at_block HBK12.out
            clear hown' hg hb' HO11 HB11 HBK11 ca11 cb11 hs11
            go_wp2_with (at_builtin; refine wpList_append_own _ rfl _ _ 26 rfl B 5 i0 (.int .u8 0) 1 1 Tryz.underlying26 hi hz0 hz1 hz2 rfl (by decide) _ _ _ rfl (HO12.out.alloc _) ⟨w12.heap.size, 0, none⟩ 1 1 (byV [109]) rfl rfl (new_cells _ _ _) (byV_one _) (by unfold maxLen; omega) (by omega) (by simp; omega) ?_)
            intro v13 w13 hown' hg _
            have hb' := grow_below HO12.out (by omega) hg
            have HB13 := Lib.hid (HB12.out.trans hb')
            have hs13 : wr.heap.size + 1 ≤ w13.heap.size := by have := hb'.size; omega
            have HBK13 := Lib.hid (keep_block HO12.out HBK12.out (by decide) hg)
            have HO13 := Lib.hid hown'
            obtain ⟨ca13, cb13⟩ := at_block HBK13.out
            clear hown' hg hb' HO12 HB12 HBK12 ca12 cb12 hs12
            go_wp2_with (first
              | (go_at_call 37; refine (refEncode1 _ _ _ x _ (by simp) (by simp)).mono ?_; rintro e w2 ⟨g, kk, rfl, hcg, hbe⟩; have HG := Lib.hid hcg; have HE := Lib.hid ((Below.refl B w13).alloc (by omega) (Obj.cells #[.int .i32 x] 21) |>.trans (hbe.mono (by simp; omega))); have hs2 : w13.heap.size ≤ w2.heap.size := (by have := hbe.size; simp at this; omega); have HO2 := Lib.hid (own_below HO13.out ((((Below.refl _ _).alloc (Nat.le_refl _) _).trans (hbe.mono (by simp))))); clear hcg hbe)
              | (at_builtin; refine wpList_append_own _ rfl _ _ 26 rfl B 5 i0 (.int .u8 0) 1 1 Tryz.underlying26 hi hz0 hz1 hz2 rfl (by decide) _ _ _ rfl HO2.out ⟨g, 0, none⟩ (Lib.encodeRuneZ x).length kk (byV (Lib.encodeRuneZ x)) rfl (by simp [byV]) HG.out (byV_one _) (by unfold maxLen; omega) (by omega) (by omega) ?_))
            intro v4 w4 hown' hg _
            have hb4 := grow_below0 HO2.out (by omega) hg
            have HO4 := Lib.hid (own_as hown' (ys := sofar xs r l (k + 1)) (by rw [← sofar_new HK.out hx HS.out, show styleB 3 = [27, 91, 48] ++ [59, 55] ++ [59, 52] ++ [109] from by decide]; simp only [byV_append, List.append_assoc]))
            have HB4 := Lib.hid (HB13.out.trans (HE.out.trans hb4))
            have hs4 := hb4.size
            clear hown' hg hb4 HO2 HE HG HO13 HB13 HBK13
            go_wp2
            go_roundw
            case rel => exact ⟨k + 1, by omega, by go_num, by rw [lastS_snoc HK.out, if_neg hx]; rfl, HO4.out, HB4.out⟩
            case measure => simp [intOf]; omega
          · have hn : (wr.alloc (Obj.cells #[.int .i32 x, .int .i64 4] 46)).heap.size = wr.heap.size + 1 := by simp
            have HN : Hid (∀ j u, (byV [27, 91, 48])[j]? = some u → ((wr.alloc (Obj.cells #[.int .i32 x, .int .i64 4] 46)).alloc (Obj.cells #[.int .u8 27, .int .u8 91, .int .u8 48] 5)).cell? ((⟨wr.heap.size + 1, 0, none⟩ : Addr).add j) = some u) := Lib.hid (by rw [← hn]; exact new_cells _ _ _)
            clear hn
            go_wp2_with (at_builtin; refine wpList_append_own _ rfl _ _ 26 rfl B 5 i0 (.int .u8 0) 1 1 Tryz.underlying26 hi hz0 hz1 hz2 rfl (by decide) _ _ _ rfl (HOa.out.alloc _) ⟨wr.heap.size + 1, 0, none⟩ 3 3 (byV [27, 91, 48]) rfl rfl HN.out (byV_one _) (by unfold maxLen; omega) (by omega) (by simp; omega) ?_)
            intro v10 w10 hown' hg _
            have hb' := grow_below HOa.out (by simp; omega) hg
            have HB10 := Lib.hid (HBa.out.trans hb')
            have hs10 : wr.heap.size + 1 ≤ w10.heap.size := by have := hb'.size; simp at this; omega
            have HBK10 := Lib.hid (keep_block HOa.out HBK.out (by decide) hg)
            have HO10 := Lib.hid hown'
            obtain ⟨ca10, cb10⟩ := at_block HBK10.out
            clear hown' hg hb' HOa HBa HBK HN
            go_wp2_with (at_builtin; refine wpList_append_own _ rfl _ _ 26 rfl B 5 i0 (.int .u8 0) 1 1 Tryz.underlying26 hi hz0 hz1 hz2 rfl (by decide) _ _ _ rfl (HO10.out.alloc _) ⟨w10.heap.size, 0, none⟩ 2 2 (byV [59, 49]) rfl rfl (new_cells _ _ _) (byV_one _) (by unfold maxLen; omega) (by omega) (by simp; omega) ?_)
            intro v11 w11 hown' hg _
            have hb' := grow_below HO10.out (by omega) hg
            have HB11 := Lib.hid (HB10.out.trans hb')
            have hs11 : wr.heap.size + 1 ≤ w11.heap.size := by have := hb'.size; omega
            have HBK11 := Lib.hid (keep_block HO10.out HBK10.out (by decide) hg)
            have HO11 := Lib.hid hown'
            obtain ⟨ca11, cb11⟩ := at_block HBK11.out
            clear hown' hg hb' HO10 HB10 HBK10 ca10 cb10 hs10
            go_wp2_with (at_builtin; refine wpList_append_own _ rfl _ _ 26 rfl B 5 i0 (.int .u8 0) 1 1 Tryz.underlying26 hi hz0 hz1 hz2 rfl (by decide) _ _ _ rfl (HO11.out.alloc _) ⟨w11.heap.size, 0, none⟩ 1 1 (byV [109]) rfl rfl (new_cells _ _ _) (byV_one _) (by unfold maxLen; omega) (by omega) (by simp; omega) ?_)
            intro v12 w12 hown' hg _
            have hb' := grow_below HO11.out (by omega) hg
            have HB12 := Lib.hid (HB11.out.trans hb')
            have hs12 : wr.heap.size + 1 ≤ w12.heap.size := by have := hb'.size; omega
            have HBK12 := Lib.hid (keep_block HO11.out HBK11.out (by decide) hg)
            have HO12 := Lib.hid hown'
            obtain ⟨ca12, cb12⟩ := at_block HBK12.out
            clear hown' hg hb' HO11 HB11 HBK11 ca11 cb11 hs11
            go_wp2_with (first
              | (go_at_call 37; refine (refEncode1 _ _ _ x _ (by simp) (by simp)).mono ?_; rintro e w2 ⟨g, kk, rfl, hcg, hbe⟩; have HG := Lib.hid hcg; have HE := Lib.hid ((Below.refl B w12).alloc (by omega) (Obj.cells #[.int .i32 x] 21) |>.trans (hbe.mono (by simp; omega))); have hs2 : w12.heap.size ≤ w2.heap.size := (by have := hbe.size; simp at this; omega); have HO2 := Lib.hid (own_below HO12.out ((((Below.refl _ _).alloc (Nat.le_refl _) _).trans (hbe.mono (by simp))))); clear hcg hbe)
              | (at_builtin; refine wpList_append_own _ rfl _ _ 26 rfl B 5 i0 (.int .u8 0) 1 1 Tryz.underlying26 hi hz0 hz1 hz2 rfl (by decide) _ _ _ rfl HO2.out ⟨g, 0, none⟩ (Lib.encodeRuneZ x).length kk (byV (Lib.encodeRuneZ x)) rfl (by simp [byV]) HG.out (byV_one _) (by unfold maxLen; omega) (by omega) (by omega) ?_))
            intro v4 w4 hown' hg _
            have hb4 := grow_below0 HO2.out (by omega) hg
            have HO4 := Lib.hid (own_as hown' (ys := sofar xs r l (k + 1)) (by rw [← sofar_new HK.out hx HS.out, show styleB 4 = [27, 91, 48] ++ [59, 49] ++ [109] from by decide]; simp only [byV_append, List.append_assoc]))
            have HB4 := Lib.hid (HB12.out.trans (HE.out.trans hb4))
            have hs4 := hb4.size
            clear hown' hg hb4 HO2 HE HG HO12 HB12 HBK12
            go_wp2
            go_roundw
            case rel => exact ⟨k + 1, by omega, by go_num, by rw [lastS_snoc HK.out, if_neg hx]; rfl, HO4.out, HB4.out⟩
            case measure => simp [intOf]; omega
          · have hn : (wr.alloc (Obj.cells #[.int .i32 x, .int .i64 5] 46)).heap.size = wr.heap.size + 1 := by simp
            have HN : Hid (∀ j u, (byV [27, 91, 48])[j]? = some u → ((wr.alloc (Obj.cells #[.int .i32 x, .int .i64 5] 46)).alloc (Obj.cells #[.int .u8 27, .int .u8 91, .int .u8 48] 5)).cell? ((⟨wr.heap.size + 1, 0, none⟩ : Addr).add j) = some u) := Lib.hid (by rw [← hn]; exact new_cells _ _ _)
            clear hn
            go_wp2_with (at_builtin; refine wpList_append_own _ rfl _ _ 26 rfl B 5 i0 (.int .u8 0) 1 1 Tryz.underlying26 hi hz0 hz1 hz2 rfl (by decide) _ _ _ rfl (HOa.out.alloc _) ⟨wr.heap.size + 1, 0, none⟩ 3 3 (byV [27, 91, 48]) rfl rfl HN.out (byV_one _) (by unfold maxLen; omega) (by omega) (by simp; omega) ?_)
            intro v10 w10 hown' hg _
            have hb' := grow_below HOa.out (by simp; omega) hg
            have HB10 := Lib.hid (HBa.out.trans hb')
            have hs10 : wr.heap.size + 1 ≤ w10.heap.size := by have := hb'.size; simp at this; omega
            have HBK10 := Lib.hid (keep_block HOa.out HBK.out (by decide) hg)
            have HO10 := Lib.hid hown'
            obtain ⟨ca10, cb10⟩ := at_block HBK10.out
            clear hown' hg hb' HOa HBa HBK HN
            go_wp2_with (at_builtin; refine wpList_append_own _ rfl _ _ 26 rfl B 5 i0 (.int .u8 0) 1 1 Tryz.underlying26 hi hz0 hz1 hz2 rfl (by decide) _ _ _ rfl (HO10.out.alloc _) ⟨w10.heap.size, 0, none⟩ 2 2 (byV [59, 55]) rfl rfl (new_cells _ _ _) (byV_one _) (by unfold maxLen; omega) (by omega) (by simp; omega) ?_)
            intro v11 w11 hown' hg _
            have hb' := grow_below HO10.out (by omega) hg
            have HB11 := Lib.hid (HB10.out.trans hb')
            have hs11 : wr.heap.size + 1 ≤ w11.heap.size := by have := hb'.size; omega
            have HBK11 := Lib.hid (keep_block HO10.out HBK10.out (by decide) hg)
            have HO11 := Lib.hid hown'
            obtain ⟨ca11, cb11⟩ := at_block HBK11.out
            clear hown' hg hb' HO10 HB10 HBK10 ca10 cb10 hs10
            go_wp2_with (at_builtin; refine wpList_append_own _ rfl _ _ 26 rfl B 5 i0 (.int .u8 0) 1 1 Tryz.underlying26 hi hz0 hz1 hz2 rfl (by decide) _ _ _ rfl (HO11.out.alloc _) ⟨w11.heap.size, 0, none⟩ 2 2 (byV [59, 49]) rfl rfl (new_cells _ _ _) (byV_one _) (by unfold maxLen; omega) (by omega) (by simp; omega) ?_)
            intro v12 w12 hown' hg _
            have hb' := grow_below HO11.out (by omega) hg
            have HB12 := Lib.hid (HB11.out.trans hb')
            have hs12 : wr.heap.size + 1 ≤ w12.heap.size := by have := hb'.size; omega
            have HBK12 := Lib.hid (keep_block HO11.out HBK11.out (by decide) hg)
            have HO12 := Lib.hid hown'
            obtain ⟨ca12, cb12⟩ := at_block HBK12.out
            clear hown' hg hb' HO11 HB11 HBK11 ca11 cb11 hs11
            go_wp2_with (at_builtin; refine wpList_append_own _ rfl _ _ 26 rfl B 5 i0 (.int .u8 0) 1 1 Tryz.underlying26 hi hz0 hz1 hz2 rfl (by decide) _ _ _ rfl (HO12.out.alloc _) ⟨w12.heap.size, 0, none⟩ 1 1 (byV [109]) rfl rfl (new_cells _ _ _) (byV_one _) (by unfold maxLen; omega) (by omega) (by simp; omega) ?_)
            intro v13 w13 hown' hg _
            have hb' := grow_below HO12.out (by omega) hg
            have HB13 := Lib.hid (HB12.out.trans hb')
            have hs13 : wr.heap.size + 1 ≤ w13.heap.size := by have := hb'.size; omega
            have HBK13 := Lib.hid (keep_block HO12.out HBK12.out (by decide) hg)
            have HO13 := Lib.hid hown'
            obtain ⟨ca13, cb13⟩ := at_block HBK13.out
            clear hown' hg hb' HO12 HB12 HBK12 ca12 cb12 hs12
            go_wp2_with (first
              | (go_at_call 37; refine (refEncode1 _ _ _ x _ (by simp) (by simp)).mono ?_; rintro e w2 ⟨g, kk, rfl, hcg, hbe⟩; have HG := Lib.hid hcg; have HE := Lib.hid ((Below.refl B w13).alloc (by omega) (Obj.cells #[.int .i32 x] 21) |>.trans (hbe.mono (by simp; omega))); have hs2 : w13.heap.size ≤ w2.heap.size := (by have := hbe.size; simp at this; omega); have HO2 := Lib.hid (own_below HO13.out ((((Below.refl _ _).alloc (Nat.le_refl _) _).trans (hbe.mono (by simp))))); clear hcg hbe)
              | (at_builtin; refine wpList_append_own _ rfl _ _ 26 rfl B 5 i0 (.int .u8 0) 1 1 Tryz.underlying26 hi hz0 hz1 hz2 rfl (by decide) _ _ _ rfl HO2.out ⟨g, 0, none⟩ (Lib.encodeRuneZ x).length kk (byV (Lib.encodeRuneZ x)) rfl (by simp [byV]) HG.out (byV_one _) (by unfold maxLen; omega) (by omega) (by omega) ?_))
            intro v4 w4 hown' hg _
            have hb4 := grow_below0 HO2.out (by omega) hg
            have HO4 := Lib.hid (own_as hown' (ys := sofar xs r l (k + 1)) (by rw [← sofar_new HK.out hx HS.out, show styleB 5 = [27, 91, 48] ++ [59, 55] ++ [59, 49] ++ [109] from by decide]; simp only [byV_append, List.append_assoc]))
            have HB4 := Lib.hid (HB13.out.trans (HE.out.trans hb4))
            have hs4 := hb4.size
            clear hown' hg hb4 HO2 HE HG HO13 HB13 HBK13
            go_wp2
            go_roundw
            case rel => exact ⟨k + 1, by omega, by go_num, by rw [lastS_snoc HK.out, if_neg hx]; rfl, HO4.out, HB4.out⟩
            case measure => simp [intOf]; omega
          · have hn : (wr.alloc (Obj.cells #[.int .i32 x, .int .i64 6] 46)).heap.size = wr.heap.size + 1 := by simp
            have HN : Hid (∀ j u, (byV [27, 91, 48])[j]? = some u → ((wr.alloc (Obj.cells #[.int .i32 x, .int .i64 6] 46)).alloc (Obj.cells #[.int .u8 27, .int .u8 91, .int .u8 48] 5)).cell? ((⟨wr.heap.size + 1, 0, none⟩ : Addr).add j) = some u) := Lib.hid (by rw [← hn]; exact new_cells _ _ _)
            clear hn
            go_wp2_with (at_builtin; refine wpList_append_own _ rfl _ _ 26 rfl B 5 i0 (.int .u8 0) 1 1 Tryz.underlying26 hi hz0 hz1 hz2 rfl (by decide) _ _ _ rfl (HOa.out.alloc _) ⟨wr.heap.size + 1, 0, none⟩ 3 3 (byV [27, 91, 48]) rfl rfl HN.out (byV_one _) (by unfold maxLen; omega) (by omega) (by simp; omega) ?_)
            intro v10 w10 hown' hg _
            have hb' := grow_below HOa.out (by simp; omega) hg
            have HB10 := Lib.hid (HBa.out.trans hb')
            have hs10 : wr.heap.size + 1 ≤ w10.heap.size := by have := hb'.size; simp at this; omega
            have HBK10 := Lib.hid (keep_block HOa.out HBK.out (by decide) hg)
            have HO10 := Lib.hid hown'
            obtain ⟨ca10, cb10⟩ := at_block HBK10.out
            clear hown' hg hb' HOa HBa HBK HN
            go_wp2_with (at_builtin; refine wpList_append_own _ rfl _ _ 26 rfl B 5 i0 (.int .u8 0) 1 1 Tryz.underlying26 hi hz0 hz1 hz2 rfl (by decide) _ _ _ rfl (HO10.out.alloc _) ⟨w10.heap.size, 0, none⟩ 2 2 (byV [59, 52]) rfl rfl (new_cells _ _ _) (byV_one _) (by unfold maxLen; omega) (by omega) (by simp; omega) ?_)
            intro v11 w11 hown' hg _
            have hb' := grow_below HO10.out (by omega) hg
            have HB11 := Lib.hid (HB10.out.trans hb')
            have hs11 : wr.heap.size + 1 ≤ w11.heap.size := by have := hb'.size; omega
            have HBK11 := Lib.hid (keep_block HO10.out HBK10.out (by decide) hg)
            have HO11 := Lib.hid hown'
            obtain ⟨ca11, cb11⟩ := at_block HBK11.out
            clear hown' hg hb' HO10 HB10 HBK10 ca10 cb10 hs10
            go_wp2_with (at_builtin; refine wpList_append_own _ rfl _ _ 26 rfl B 5 i0 (.int .u8 0) 1 1 Tryz.underlying26 hi hz0 hz1 hz2 rfl (by decide) _ _ _ rfl (HO11.out.alloc _) ⟨w11.heap.size, 0, none⟩ 2 2 (byV [59, 49]) rfl rfl (new_cells _ _ _) (byV_one _) (by unfold maxLen; omega) (by omega) (by simp; omega) ?_)
            intro v12 w12 hown' hg _
            have hb' := grow_below HO11.out (by omega) hg
            have HB12 := Lib.hid (HB11.out.trans hb')
            have hs12 : wr.heap.size + 1 ≤ w12.heap.size := by have := hb'.size; omega
            have HBK12 := Lib.hid (keep_block HO11.out HBK11.out (by decide) hg)
            have HO12 := Lib.hid hown'
            obtain ⟨ca12, cb12⟩ := at_block HBK12.out
            clear hown' hg hb' HO11 HB11 HBK11 ca11 cb11 hs11
            go_wp2_with (at_builtin; refine wpList_append_own _ rfl _ _ 26 rfl B 5 i0 (.int .u8 0) 1 1 Tryz.underlying26 hi hz0 hz1 hz2 rfl (by decide) _ _ _ rfl (HO12.out.alloc _) ⟨w12.heap.size, 0, none⟩ 1 1 (byV [109]) rfl rfl (new_cells _ _ _) (byV_one _) (by unfold maxLen; omega) (by omega) (by simp; omega) ?_)
            intro v13 w13 hown' hg _
            have hb' := grow_below HO12.out (by omega) hg
            have HB13 := Lib.hid (HB12.out.trans hb')
            have hs13 : wr.heap.size + 1 ≤ w13.heap.size := by have := hb'.size; omega
            have HBK13 := Lib.hid (keep_block HO12.out HBK12.out (by decide) hg)
            have HO13 := Lib.hid hown'
            obtain ⟨ca13, cb13⟩ := at_block HBK13.out
            clear hown' hg hb' HO12 HB12 HBK12 ca12 cb12 hs12
            go_wp2_with (first
              | (go_at_call 37; refine (refEncode1 _ _ _ x _ (by simp) (by simp)).mono ?_; rintro e w2 ⟨g, kk, rfl, hcg, hbe⟩; have HG := Lib.hid hcg; have HE := Lib.hid ((Below.refl B w13).alloc (by omega) (Obj.cells #[.int .i32 x] 21) |>.trans (hbe.mono (by simp; omega))); have hs2 : w13.heap.size ≤ w2.heap.size := (by have := hbe.size; simp at this; omega); have HO2 := Lib.hid (own_below HO13.out ((((Below.refl _ _).alloc (Nat.le_refl _) _).trans (hbe.mono (by simp))))); clear hcg hbe)
              | (at_builtin; refine wpList_append_own _ rfl _ _ 26 rfl B 5 i0 (.int .u8 0) 1 1 Tryz.underlying26 hi hz0 hz1 hz2 rfl (by decide) _ _ _ rfl HO2.out ⟨g, 0, none⟩ (Lib.encodeRuneZ x).length kk (byV (Lib.encodeRuneZ x)) rfl (by simp [byV]) HG.out (byV_one _) (by unfold maxLen; omega) (by omega) (by omega) ?_))
            intro v4 w4 hown' hg _
            have hb4 := grow_below0 HO2.out (by omega) hg
            have HO4 := Lib.hid (own_as hown' (ys := sofar xs r l (k + 1)) (by rw [← sofar_new HK.out hx HS.out, show styleB 6 = [27, 91, 48] ++ [59, 52] ++ [59, 49] ++ [109] from by decide]; simp only [byV_append, List.append_assoc]))
            have HB4 := Lib.hid (HB13.out.trans (HE.out.trans hb4))
            have hs4 := hb4.size
            clear hown' hg hb4 HO2 HE HG HO13 HB13 HBK13
            go_wp2
            go_roundw
            case rel => exact ⟨k + 1, by omega, by go_num, by rw [lastS_snoc HK.out, if_neg hx]; rfl, HO4.out, HB4.out⟩
            case measure => simp [intOf]; omega
          · have hn : (wr.alloc (Obj.cells #[.int .i32 x, .int .i64 7] 46)).heap.size = wr.heap.size + 1 := by simp
            have HN : Hid (∀ j u, (byV [27, 91, 48])[j]? = some u → ((wr.alloc (Obj.cells #[.int .i32 x, .int .i64 7] 46)).alloc (Obj.cells #[.int .u8 27, .int .u8 91, .int .u8 48] 5)).cell? ((⟨wr.heap.size + 1, 0, none⟩ : Addr).add j) = some u) := Lib.hid (by rw [← hn]; exact new_cells _ _ _)
            clear hn
            go_wp2_with (at_builtin; refine wpList_append_own _ rfl _ _ 26 rfl B 5 i0 (.int .u8 0) 1 1 Tryz.underlying26 hi hz0 hz1 hz2 rfl (by decide) _ _ _ rfl (HOa.out.alloc _) ⟨wr.heap.size + 1, 0, none⟩ 3 3 (byV [27, 91, 48]) rfl rfl HN.out (byV_one _) (by unfold maxLen; omega) (by omega) (by simp; omega) ?_)
            intro v10 w10 hown' hg _
            have hb' := grow_below HOa.out (by simp; omega) hg
            have HB10 := Lib.hid (HBa.out.trans hb')
            have hs10 : wr.heap.size + 1 ≤ w10.heap.size := by have := hb'.size; simp at this; omega
            have HBK10 := Lib.hid (keep_block HOa.out HBK.out (by decide) hg)
            have HO10 := Lib.hid hown'
            obtain ⟨ca10, cb10⟩ := at_block HBK10.out
            clear hown' hg hb' HOa HBa HBK HN
            go_wp2_with (at_builtin; refine wpList_append_own _ rfl _ _ 26 rfl B 5 i0 (.int .u8 0) 1 1 Tryz.underlying26 hi hz0 hz1 hz2 rfl (by decide) _ _ _ rfl (HO10.out.alloc _) ⟨w10.heap.size, 0, none⟩ 2 2 (byV [59, 55]) rfl rfl (new_cells _ _ _) (byV_one _) (by unfold maxLen; omega) (by omega) (by simp; omega) ?_)
            intro v11 w11 hown' hg _
            have hb' := grow_below HO10.out (by omega) hg
            have HB11 := Lib.hid (HB10.out.trans hb')
            have hs11 : wr.heap.size + 1 ≤ w11.heap.size := by have := hb'.size; omega
            have HBK11 := Lib.hid (keep_block HO10.out HBK10.out (by decide) hg)
            have HO11 := Lib.hid hown'
            obtain ⟨ca11, cb11⟩ := at_block HBK11.out
            clear hown' hg hb' HO10 HB10 HBK10 ca10 cb10 hs10
            go_wp2_with (at_builtin; refine wpList_append_own _ rfl _ _ 26 rfl B 5 i0 (.int .u8 0) 1 1 Tryz.underlying26 hi hz0 hz1 hz2 rfl (by decide) _ _ _ rfl (HO11.out.alloc _) ⟨w11.heap.size, 0, none⟩ 2 2 (byV [59, 52]) rfl rfl (new_cells _ _ _) (byV_one _) (by unfold maxLen; omega) (by omega) (by simp; omega) ?_)
            intro v12 w12 hown' hg _
            have hb' := grow_below HO11.out (by omega) hg
            have HB12 := Lib.hid (HB11.out.trans hb')
            have hs12 : wr.heap.size + 1 ≤ w12.heap.size := by have := hb'.size; omega
            have HBK12 := Lib.hid (keep_block HO11.out HBK11.out (by decide) hg)
            have HO12 := Lib.hid hown'
            obtain ⟨ca12, cb12⟩ := at_block HBK12.out
            clear hown' hg hb' HO11 HB11 HBK11 ca11 cb11 hs11
            go_wp2_with (at_builtin; refine wpList_append_own _ rfl _ _ 26 rfl B 5 i0 (.int .u8 0) 1 1 Tryz.underlying26 hi hz0 hz1 hz2 rfl (by decide) _ _ _ rfl (HO12.out.alloc _) ⟨w12.heap.size, 0, none⟩ 2 2 (byV [59, 49]) rfl rfl (new_cells _ _ _) (byV_one _) (by unfold maxLen; omega) (by omega) (by simp; omega) ?_)
            intro v13 w13 hown' hg _
            have hb' := grow_below HO12.out (by omega) hg
            have HB13 := Lib.hid (HB12.out.trans hb')
            have hs13 : wr.heap.size + 1 ≤ w13.heap.size := by have := hb'.size; omega
            have HBK13 := Lib.hid (keep_block HO12.out HBK12.out (by decide) hg)
            have HO13 := Lib.hid hown'
            obtain ⟨ca13, cb13⟩ := at_block HBK13.out
            clear hown' hg hb' HO12 HB12 HBK12 ca12 cb12 hs12
            go_wp2_with (at_builtin; refine wpList_append_own _ rfl _ _ 26 rfl B 5 i0 (.int .u8 0) 1 1 Tryz.underlying26 hi hz0 hz1 hz2 rfl (by decide) _ _ _ rfl (HO13.out.alloc _) ⟨w13.heap.size, 0, none⟩ 1 1 (byV [109]) rfl rfl (new_cells _ _ _) (byV_one _) (by unfold maxLen; omega) (by omega) (by simp; omega) ?_)
            intro v14 w14 hown' hg _
            have hb' := grow_below HO13.out (by omega) hg
            have HB14 := Lib.hid (HB13.out.trans hb')
            have hs14 : wr.heap.size + 1 ≤ w14.heap.size := by have := hb'.size; omega
            have HBK14 := Lib.hid (keep_block HO13.out HBK13.out (by decide) hg)
            have HO14 := Lib.hid hown'
            obtain ⟨ca14, cb14⟩ := at_block HBK14.out
            clear hown' hg hb' HO13 HB13 HBK13 ca13 cb13 hs13
            go_wp2_with (first
              | (go_at_call 37; refine (refEncode1 _ _ _ x _ (by simp) (by simp)).mono ?_; rintro e w2 ⟨g, kk, rfl, hcg, hbe⟩; have HG := Lib.hid hcg; have HE := Lib.hid ((Below.refl B w14).alloc (by omega) (Obj.cells #[.int .i32 x] 21) |>.trans (hbe.mono (by simp; omega))); have hs2 : w14.heap.size ≤ w2.heap.size := (by have := hbe.size; simp at this; omega); have HO2 := Lib.hid (own_below HO14.out ((((Below.refl _ _).alloc (Nat.le_refl _) _).trans (hbe.mono (by simp))))); clear hcg hbe)
              | (at_builtin; refine wpList_append_own _ rfl _ _ 26 rfl B 5 i0 (.int .u8 0) 1 1 Tryz.underlying26 hi hz0 hz1 hz2 rfl (by decide) _ _ _ rfl HO2.out ⟨g, 0, none⟩ (Lib.encodeRuneZ x).length kk (byV (Lib.encodeRuneZ x)) rfl (by simp [byV]) HG.out (byV_one _) (by unfold maxLen; omega) (by omega) (by omega) ?_))
            intro v4 w4 hown' hg _
            have hb4 := grow_below0 HO2.out (by omega) hg
            have HO4 := Lib.hid (own_as hown' (ys := sofar xs r l (k + 1)) (by rw [← sofar_new HK.out hx HS.out, show styleB 7 = [27, 91, 48] ++ [59, 55] ++ [59, 52] ++ [59, 49] ++ [109] from by decide]; simp only [byV_append, List.append_assoc]))
            have HB4 := Lib.hid (HB14.out.trans (HE.out.trans hb4))
            have hs4 := hb4.size
            clear hown' hg hb4 HO2 HE HG HO14 HB14 HBK14
            go_wp2
            go_roundw
            case rel => exact ⟨k + 1, by omega, by go_num, by rw [lastS_snoc HK.out, if_neg hx]; rfl, HO4.out, HB4.out⟩
            case measure => simp [intOf]; omega
    · obtain rfl : k = n := by omega
      go_wp2
      go_ret
      refine ⟨_, rfl, ?_, hbel⟩
      have e : sofar xs r l l.length = xs ++ byV (headB r ++ rowB none l) := by unfold sofar; rw [List.take_length]
      rw [← e, HL.out]
      exact hown
end Go.Proofs.YtnbpkabnaipimaaGreatDoor
