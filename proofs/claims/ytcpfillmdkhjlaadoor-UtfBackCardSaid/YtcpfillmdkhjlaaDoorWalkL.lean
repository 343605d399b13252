/- The contract of the reference's All; of utf.Decode once more, with a slice that is never nil; laws on append and bytes. -/
import Derived.Test.YtcpfillmdkhjlaaDoorMath2
import Derived.Test.YtcpfillmdkhjlaaDoorWalkK
import Derived.Laws.AppendOwnNone
namespace Go.Proofs.YtcpfillmdkhjlaaDoor
open Go Go.RowKit Go.Lib

theorem all_none (a : Option Addr) (cap : Nat) (w : World) :
    Calls Tryd.prog 16 #[.slice a 0 cap] w fun e w' => e = .returned (.bool true) ∧ w = w' := by
  go_enter Tryd.func16, Tryd.ntmps16
  go_wp2
  go_loop [3] (fun i => i = .int .i64 0) (fun _ => 0)
  case atStart => rfl
  case round =>
    subst hrel
    go_wp2
    go_ret
    exact ⟨rfl, rfl⟩

theorem all_cells (b off n cap : Nat) (zs : List Int) (w : World) (hn : n ≤ 1099511627776) (hl : zs.length = n)
    (hc : ∀ j z, zs[j]? = some z → w.cell? ⟨b, off + j, none⟩ = some (.int .i32 z)) :
    Calls Tryd.prog 16 #[.slice (some ⟨b, off, none⟩) n cap] w fun e w' => e = .returned (.bool (zs.all Lib.validRune)) ∧ w = w' := by
  have HC := Lib.hid hc
  have HL := Lib.hid hl
  clear hc hl
  go_enter Tryd.func16, Tryd.ntmps16
  go_wp2
  go_loop [3] (fun i => ∃ k : Nat, k ≤ n ∧ i = .int .i64 k ∧ (zs.take k).all Lib.validRune = true) (fun i => n - (RowKit.intOf i).toNat)
  case atStart => exact ⟨0, Nat.zero_le _, rfl, rfl⟩
  case round =>
    obtain ⟨k, hk, rfl, hall⟩ := hrel
    have HA := Lib.hid hall
    clear hall
    by_cases hlt : k < n
    · obtain ⟨z, hz⟩ : ∃ z, zs[k]? = some z := ⟨zs[k]'(by have := HL.out; omega), by simp⟩
      have c1 := HC.out k z hz
      have hltz : (k : Int) < (n : Int) := by omega
      have HZ := Lib.hid hz
      clear hz
      cases hv : Lib.validRune z
      · have E := Lib.hid (show zs.all Lib.validRune = false by
          rw [List.all_eq_false]
          exact ⟨z, List.mem_of_getElem? HZ.out, by simp [hv]⟩)
        go_wp2_with (go_at_call 8; refine (refRight _ _).mono ?_; rintro e w' ⟨rfl, rfl⟩)
        go_ret
        exact ⟨ret_bool E.out.symm, rfl⟩
      · have HV := Lib.hid hv
        go_wp2_with (go_at_call 8; refine (refRight _ _).mono ?_; rintro e w' ⟨rfl, rfl⟩)
        go_round
        case rel =>
          refine ⟨k + 1, by omega, by go_num, ?_⟩
          rw [List.take_add_one, HZ.out, List.all_append, HA.out]
          simp [HV.out]
        case measure => simp [RowKit.intOf]; omega
    · have E := Lib.hid (show zs.all Lib.validRune = true by
        have h := HA.out
        rwa [List.take_of_length_le (by have := HL.out; omega)] at h)
      go_wp2
      go_ret
      exact ⟨ret_bool E.out.symm, rfl⟩

theorem all (a : Option Addr) (n cap : Nat) (zs : List Int) (w : World) (hn : n ≤ 1099511627776) (h : SeqAt .i32 w a n zs) :
    Calls Tryd.prog 16 #[.slice a n cap] w fun e w' => e = .returned (.bool (zs.all Lib.validRune)) ∧ w = w' := by
  obtain ⟨hl, rfl | ⟨b, off, rfl, hlt, hc⟩⟩ := h
  · obtain rfl : zs = [] := List.eq_nil_of_length_eq_zero hl
    exact all_none a cap w
  · exact all_cells b off n cap zs w hn hl hc

set_option maxHeartbeats 2000000 in
/-- utf.Decode: the runes of any bytes, in a slice that is not nil. -/
theorem decode2 (s : ByteArray) (a : Option Addr) (cap : Nat) (w : World) (hs : s.size ≤ 1099511627776) (hcap : s.size ≤ cap) (h : BytesIn s a w) :
    Calls Tryd.prog 14 #[.slice a s.size cap] w fun e w' => ∃ v, e = .returned v ∧ v ≠ .slice none 0 0 ∧ w'.ownsRow w.heap.size 21 1 v (decAll s).length ((decAll s).map (fun x => Value.int .i32 x)) ∧ Below w.heap.size w w' := by
  obtain ⟨i0, hi, hz0, hz1, hz2⟩ := info_parts Tryd.info21
  have HI := Lib.hid h
  clear h
  go_enter Tryd.func14, Tryd.ntmps14
  go_wp2_with fail
  refine (runeCount s a cap w hs hcap HI.out).mono ?_
  rintro e w1 ⟨⟨c, hc, rfl⟩, b1⟩
  have B1 := Lib.hid b1
  have hsz1 := b1.size
  clear b1
  go_wp2_with (at_make; refine wpList_make_own _ rfl _ _ 22 rfl w.heap.size 21 i0 (.int .i32 0) 1 Tryd.underlying22 hi hz0 hz1 .i64 .i64 _ c rfl rfl rfl (by rw [hz2]; omega) (by unfold maxLen; omega) (by omega) ?_)
  intro w2 hown2 hgrow2
  have hconv := conv_bytes (HI.out.below (B1.out.trans (((Below.refl _ _).grown hgrow2 (Nat.le_refl _) (by simp)).mono (by omega)))) cap
  have B2 := Lib.hid (B1.out.grown hgrow2 (by omega) (by simp))
  have hsz2 := hgrow2.size
  have O2 := Lib.hid hown2
  clear hown2 hgrow2
  go_wp2
  go_loopw [3] (fun v wr => ∃ (pos f : Nat) (acc : List Int), wr.heap[w2.heap.size]? = some (.stringIter s pos) ∧ v ≠ .slice none 0 0 ∧ wr.ownsRow w.heap.size 21 1 v acc.length (acc.map (fun x => Value.int .i32 x)) ∧ acc ++ decFrom s f pos = decAll s ∧ s.size ≤ pos + f ∧ acc.length ≤ pos ∧ Below w.heap.size w wr)
    (fun _ wr => s.size - wr.iterPos w2.heap.size)
  case atStart =>
    refine ⟨0, s.size, [], World.iter_heap w2 s 0, by simp, O2.out.alloc _, by simp [decAll], by omega, by simp, B2.out.alloc (by omega) _⟩
  case round =>
    obtain ⟨pos, f, acc, hk, hnn, hown, hacc, hf, hap, hbel⟩ := hrel
    have HNN := Lib.hid hnn
    have HA := Lib.hid hacc
    have HK := Lib.hid hk
    have HO := Lib.hid hown
    have HBL := Lib.hid hbel
    have hsz := hbel.size
    have hmu := Lib.hid (show wr.iterPos w2.heap.size = pos by simp [World.iterPos, hk])
    clear hacc hk hown hbel hnn
    by_cases hp : pos < s.size
    · have hnx : ∀ ty, (Instr.next (.pointer (some ⟨w2.heap.size, 0, none⟩)) true ty).run Tryd.prog wr = _ := fun ty => Lib.run_next_any_at wr w2.heap.size s pos ty HK.out hp
      have hwd := Lib.decode_width_pos s pos hp
      have hO1 := own_iterAt HO.out HK.out (pos + (Utf8.decode s pos).2)
      have hk1 := Lib.iterAt_heap wr w2.heap.size s pos (pos + (Utf8.decode s pos).2) HK.out
      have hb1 := Lib.below_iterAt HBL.out (k := w2.heap.size) (by omega) s (pos + (Utf8.decode s pos).2)
      obtain ⟨r, hr⟩ : ∃ r, r = (Utf8.decode s pos).1 := ⟨_, rfl⟩
      obtain ⟨d, hd⟩ : ∃ d, d = (Utf8.decode s pos).2 := ⟨_, rfl⟩
      rw [← hd] at hwd hO1 hk1 hb1
      simp only [← hr, ← hd] at hnx
      generalize hW : wr.iterAt w2.heap.size s (pos + d) = W1 at hnx hO1 hk1 hb1
      have R := Lib.hid hr
      have D := Lib.hid hd
      have O1 := Lib.hid hO1
      have K1 := Lib.hid hk1
      have BB := Lib.hid hb1
      have hs1 := hb1.size
      clear hr hd hO1 hk1 hb1 hW
      go_wp2_with (at_builtin; refine wpList_append_own _ rfl _ _ 22 rfl w.heap.size 21 i0 (.int .i32 0) 1 4 Tryd.underlying22 hi hz0 hz1 hz2 rfl (by decide) _ _ _ rfl (O1.out.alloc _) ⟨W1.heap.size, 0, none⟩ 1 1 [.int .i32 r] rfl rfl (new_cells _ _ _) (by intro u hu; simp at hu; subst hu; rfl) (by unfold maxLen; omega) (by omega) (by simp; omega) ?_)
      intro v' w3 hown3 hg hnil
      have K2 := Lib.hid (iter_grown O1.out K1.out hg)
      have B3 := Lib.hid ((BB.out.alloc (by omega) _).grown hg (by simp; omega) (fun k hk => (O1.out.lt k hk).1))
      have O3 := Lib.hid hown3
      have N3 := Lib.hid (show v' ≠ .slice none 0 0 from fun h => hnil h)
      clear hown3 hg hnx hnil
      go_wp2
      go_roundw
      case rel =>
        cases f with
        | zero => omega
        | succ f =>
          refine ⟨pos + d, f, acc ++ [(r : Int)], K2.out, N3.out, ?_, ?_, by omega, by simp; omega, B3.out⟩
          · simpa using O3.out
          · rw [← HA.out, decFrom, if_pos hp, R.out, D.out]
            simp
      case measure =>
        have e : w3.iterPos w2.heap.size = pos + d := by simp [World.iterPos, K2.out]
        rw [hmu.out, e]
        omega
    · have hnx : ∀ ty, (Instr.next (.pointer (some ⟨w2.heap.size, 0, none⟩)) true ty).run Tryd.prog wr = _ := fun ty => Lib.run_next_end_at wr w2.heap.size s pos ty HK.out hp
      go_wp2
      go_ret
      have e := HA.out
      rw [decFrom_end s f pos hp, List.append_nil] at e
      subst e
      exact ⟨_, rfl, HNN.out, HO.out, HBL.out⟩

/-- append, of bytes that lie in memory or are none, onto a row that the call owns. -/
theorem wpList_append_in {P : Program} (w : World) {ops : Array Oper} {rest : List Oper} {o : Oper} {a : Act} {Q : Exit → Act → World → Prop} (hgd : o.guard = none) (s x : Operand) (t : TypeId)
    (ho : o.op = .call { callee := .builtin .append, args := #[s, x], argTypes := #[t, t] })
    (base : Nat) (e : TypeId) (i : TypeInfo) (z : Value) (bytes : Nat) (ht : P.underlying t = some (.slice e)) (hi : P.info? e = some i) (hz : i.zero = some z)
    (hsize : i.size = 1) (hby : i.bytes = bytes) (hzs : z.cells.size = 1)
    (v : Value) (n : Nat) (xs : List Value) (hs : a.eval s = v) (hown : w.ownsRow base e 1 v n xs)
    (ao : Option Addr) (m c : Nat) (news : List Value) (hx : a.eval x = .slice ao m c) (hno : ao = none → m = 0 ∧ c = 0) (hl : news.length = m) (hnews : ∀ ad, ao = some ad → ∀ j u, news[j]? = some u → w.cell? (ad.add j) = some u) (h1 : ∀ u ∈ news, u.oneCell' = true)
    (h63 : n + m ≤ maxLen) (hbytes : (n + m) * bytes ≤ 140737488355328) (hbase : base ≤ w.heap.size)
    (h : ∀ v' w', w'.ownsRow base e 1 v' (n + m) (xs ++ news) → w.grownBy w' v.ownBlock → wpList P ops Q rest (a.put o.dst v') w') : wpList P ops Q (o :: rest) a w := by
  cases ao with
  | none =>
    obtain ⟨rfl, rfl⟩ := hno rfl
    obtain rfl : news = [] := List.eq_nil_of_length_eq_zero hl
    refine wpList_append_own_none hgd s x t ho base e i 1 ht hi v n xs hs hown hx ?_
    refine h v w (by simpa using hown) ⟨rfl, rfl, rfl, Nat.le_refl _, fun _ _ _ => rfl⟩
  | some ad =>
    exact wpList_append_own w hgd s x t ho base e i z 1 bytes ht hi hz hsize hby hzs (by decide) v n xs hs hown ad m c news hx (by omega) (hnews ad rfl) h1 h63 hbytes hbase fun v' w' a b _ => h v' w' a b

/-- The bytes of a text, as numbers. -/
def numsOf8 (s : ByteArray) : List Int := s.data.toList.map fun x => (x.toNat : Int)
theorem numsOf8_length (s : ByteArray) : (numsOf8 s).length = s.size := by simp [numsOf8]
theorem numsOf8_cells {s : ByteArray} {b off : Nat} {w : World} (hc : ∀ j, j < s.size → w.cell? ⟨b, off + j, none⟩ = some (.int .u8 (s.get! j).toNat)) : ∀ j u, ((numsOf8 s).map (fun x => Value.int .u8 x))[j]? = some u → w.cell? ((⟨b, off, none⟩ : Addr).add j) = some u := by
  intro j u hj
  have hlt : j < s.size := by
    have := (List.getElem?_eq_some_iff.1 hj).1
    simpa [numsOf8] using this
  rw [Addr.add_lit, hc j hlt, ← hj, ← Lib.getD_get!']
  simp only [numsOf8, List.getElem?_map, List.getD]
  have : j < s.data.toList.length := by simpa using hlt
  rw [List.getElem?_eq_getElem this]
  rfl

theorem own_bytes {w : World} {B n : Nat} {v : Value} {zs : List Int} (h : w.ownsRow B 5 1 v n (zs.map (fun x => Value.int .u8 x))) (hb : ∀ z ∈ zs, 0 ≤ z ∧ z < 256) : ∃ a cap, v = .slice a n cap ∧ n ≤ cap ∧ (strOfNums zs).size = n ∧ BytesIn (strOfNums zs) a w := by
  have hl := h.1
  simp at hl
  have hsz : (strOfNums zs).size = n := by rw [strOfNums_size]; exact hl
  rcases h.2 with ⟨rfl, rfl⟩ | ⟨g, cap, cur, rfl, hB, hg, hc, _⟩
  · exact ⟨none, 0, rfl, Nat.le_refl _, hsz, .inl hsz⟩
  · refine ⟨_, cap, rfl, hc, hsz, .inr ⟨g, 0, rfl, (Array.getElem?_eq_some_iff.1 hg).1, fun j hj => ?_⟩⟩
    rw [strOfNums_size] at hj
    have := h.cells (g := g) rfl j (.int .u8 zs[j]) (by simp [List.getElem?_eq_getElem hj])
    rw [Addr.add_lit] at this
    rw [this, nums_get!]
    have hb' := hb _ (List.getElem_mem hj)
    simp only [List.getD, List.getElem?_eq_getElem hj, Option.getD_some, UInt8.toNat_ofNat']
    congr 2
    omega

theorem encNums_bytes (l : List Int) : ∀ z ∈ encNums l, 0 ≤ z ∧ z < 256 := by
  intro z hz
  obtain ⟨x, _, hx⟩ := List.mem_flatMap.1 hz
  exact Lib.encodeRuneZ_byte x z hx
theorem numsOf8_bytes (s : ByteArray) : ∀ z ∈ numsOf8 s, 0 ≤ z ∧ z < 256 := by
  intro z hz
  obtain ⟨x, _, rfl⟩ := List.mem_map.1 hz
  have := x.toNat_lt
  omega
theorem numsOf8_str (s : ByteArray) : strOfNums (numsOf8 s) = s := strOfNums_bytes s
end Go.Proofs.YtcpfillmdkhjlaaDoor
