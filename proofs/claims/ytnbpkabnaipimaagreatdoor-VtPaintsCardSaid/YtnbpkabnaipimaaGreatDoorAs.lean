/- The contract of the law's As: a grid's cells, told anew. Condition: the cells lie in memory. -/
import Derived.Test.YtnbpkabnaipimaaGreatDoorData
import Derived.BigRegion
import Derived.Shelf.RegionOpenPlain
namespace Go.Proofs.YtnbpkabnaipimaaGreatDoor
open Go Go.RowKit

/-- append onto a row that the call owns, as one step of a region that draws. -/
theorem step_append_own {P : Program} {ops : Array Oper} {o : Oper} {a : Act} {w : World} {K : Act → World → Prop} {Q : Exit → Act → World → Prop} {E : Prop}
    (hg : o.guard = none) (s x : Operand) (t : TypeId) (hop : o.op = Op.call { callee := Callee.builtin Builtin.append, args := #[s, x], argTypes := #[t, t] })
    (base : Nat) (e : TypeId) (i : TypeInfo) (z : Value) (size bytes : Nat) (h1 : P.underlying t = some (.slice e)) (h2 : P.info? e = some i) (h3 : i.zero = some z) (h4 : i.size = size) (h5 : i.bytes = bytes) (h6 : z.cells.size = size) (h7 : 0 < size)
    (v : Value) (n : Nat) (xs : List Value) (hs : a.eval s = v) (hown : w.ownsRow base e size v n xs)
    (ad : Addr) (m c : Nat) (news : List Value) (hx : a.eval x = .slice (some ad) m c) (hn : news.length = m * size) (hc : ∀ j u, news[j]? = some u → w.cell? (ad.add j) = some u) (h1c : ∀ u ∈ news, u.oneCell' = true)
    (b1 : n + m ≤ maxLen) (b2 : (n + m) * bytes ≤ 140737488355328) (hbase : base ≤ w.heap.size)
    (hK : ∀ v' w', w'.ownsRow base e size v' (n + m) (xs ++ news) → w.grownBy w' v.ownBlock → K (a.put o.dst v') w') :
    if Region.wanted o (yielded ops a.tmps) = true then Oper.wp P o a w K Q else E := by
  have hw : Region.wanted o (yielded ops a.tmps) = true := by simp [Region.wanted, hg]
  rw [if_pos hw]
  obtain ⟨v', w', hrun, r1, r2, _⟩ := run_append_own (P := P) w base t o.type e i z size bytes h1 h2 h3 h4 h5 h6 h7 v n xs hown ad m c news hn hc h1c b1 b2 hbase
  unfold Oper.wp
  simp [execOp, hop, resolve, invoke, builtin, hs, hx, hrun, Result.andThen]
  exact hK v' w' r1 r2

/-- A block of another type stays when a row of the call's own grows. -/
theorem keep_typ {B e size m b t : Nat} {v : Value} {xs : List Value} {w w2 W : World} {cs : Array Value} {fr : Nat × Nat} (hO : w.ownsRow B e size v m xs) (hb : w.heap[b]? = some (Obj.cells cs t fr)) (ht : t ≠ e) (hW : Below w.heap.size w W) (hg : W.grownBy w2 v.ownBlock) : w2.heap[b]? = some (Obj.cells cs t fr) := by
  have hlt := lt_of_block hb
  have h1 : W.heap[b]? = some (Obj.cells cs t fr) := (hW.block b hlt).trans hb
  rw [hg.block b (lt_of_block h1) fun e => ?_]
  · exact h1
  · rcases hO.2 with ⟨rfl, _⟩ | ⟨g, cap, cur, rfl, _, hh, _⟩
    · cases e
    · simp only [Value.ownBlock, Option.some.injEq] at e
      subst e
      rw [hb] at hh
      simp at hh
      exact ht hh.2.1
theorem Tryz.infoCell : (Tryz.prog.info? 46).map (fun i => (i.zero, i.size, i.bytes)) = some (some (.agg #[.int .i32 0, .int .i64 0]), 2, 16) := by kernel_rfl

theorem take_snoc {l : List Cl} {k : Nat} {c : Cl} (h : l[k]? = some c) : flat (l.take k) ++ c.cells = flat (l.take (k + 1)) := by
  rw [List.take_add_one, h, Option.toList_some, flat_append, flat_one]

set_option maxHeartbeats 4000000 in
set_option maxRecDepth 20000 in
theorem asG (R C : Int) (a : Option Addr) (n cap : Nat) (l : List Cl) (w : World) (hn : n ≤ 100000) (hl : RowAt w a n l) :
    Calls Tryz.prog 7 #[.agg #[.int .i64 R, .int .i64 C, .slice a n cap]] w fun e w' => ∃ v, e = .returned v ∧ w'.ownsRow w.heap.size 46 2 v n (flat l) ∧ Below w.heap.size w w' := by
  obtain ⟨i0, hi, hz0, hz1, hz2⟩ := info_parts Tryz.infoCell
  have HL := Lib.hid hl
  clear hl
  go_enter Tryz.func7, Tryz.ntmps7
  go_wp2
  go_loopw [3, 4] (fun v i wr => ∃ k : Nat, k ≤ n ∧ i = .int .i64 k ∧ wr.ownsRow w.heap.size 46 2 v k (flat (l.take k)) ∧ wr.heap[w.heap.size]? = some (Obj.cells #[.int .i64 R, .int .i64 C, .slice a n cap] 24 (0, 0)) ∧ Below w.heap.size w wr)
    (fun _ i _ => n - (intOf i).toNat)
  case atStart => exact ⟨0, Nat.zero_le _, rfl, by rw [List.take_zero, flat_nil]; exact World.ownsRow_nil _ _ _ _, heap_alloc_new w _, (Below.refl _ _).alloc (Nat.le_refl _) _⟩
  case round =>
    obtain ⟨k, hk, rfl, hown, hbk, hbel⟩ := hrel
    have hsz := hbel.size
    have hblt := lt_of_block hbk
    have b2 : wr.cell? ⟨w.heap.size, 2, none⟩ = some (.slice a n cap) := by rw [cell_of_row wr _ 2 _ _ (0, 0) hbk]; rfl
    have HBK := Lib.hid hbk
    have HO := Lib.hid hown
    have HB := Lib.hid hbel
    clear hbk hown hbel
    by_cases hlt : k < n
    · obtain ⟨c, hck⟩ : ∃ c, l[k]? = some c := ⟨l[k]'(by have := HL.out.1; omega), by simp⟩
      rcases HL.out.2 with h0 | ⟨b, off, rfl, hbl, hc⟩
      · omega
      obtain ⟨c0, c1⟩ := clCells (w := wr) (fun j u hu => (HB.out.cell (by exact hbl)).trans (hc j u hu)) k c hck
      have HK := Lib.hid hck
      clear hc hck
      obtain ⟨x, s⟩ := c
      simp only at c0 c1
      go_wp2_with fail
      go_region_law (first
        | (refine step_append_own rfl (.tmp 12) (.tmp 26) 31 rfl w.heap.size 46 i0 _ 2 16 Tryz.underlying31 hi hz0 hz1 hz2 rfl (by decide) _ k (flat (l.take k)) (by simp [Act.eval]) (HO.out.drew.alloc _) ⟨wr.heap.size, 0, none⟩ 1 1 (Cl.cells ⟨x, s⟩) (by simp [Act.eval]) rfl (new_cells wr.drew (Cl.cells ⟨x, s⟩) 46) (cells_one1 _) (by unfold maxLen; omega) (by omega) (by simp; omega) ?_; intro v2 w2 own2 gr2))
      all_goals
        have HB2 := Lib.hid (show Below w.heap.size w w2 from ((HB.out.alloc (by omega) (Obj.cells #[.int .i32 x, .int .i64 s] 46)).drew).grown gr2 (by simp; omega) (fun j hj => (HO.out.lt j hj).1))
        have HK2 := Lib.hid (keep_typ HO.out HBK.out (by decide) (((Below.refl _ _).alloc (Nat.le_refl _) (Obj.cells #[.int .i32 x, .int .i64 s] 46)).drew) gr2)
        have HO2 := Lib.hid (take_snoc HK.out ▸ own2)
        clear own2 gr2 HO HB HBK
        go_wp2
        go_roundw
        case rel => exact ⟨k + 1, by omega, by go_num, HO2.out, HK2.out, HB2.out⟩
        case measure => simp [intOf]; omega
    · obtain rfl : k = n := by omega
      go_wp2
      go_ret
      have e : l.take k = l := List.take_of_length_le (by have := HL.out.1; omega)
      exact ⟨_, rfl, e ▸ HO.out, HB.out⟩
end Go.Proofs.YtnbpkabnaipimaaGreatDoor
