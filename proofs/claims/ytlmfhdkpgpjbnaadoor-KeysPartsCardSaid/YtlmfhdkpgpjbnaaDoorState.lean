/- What the law's loop carries: the keys so far, both decoders, what is left; an append law that says where the row lies. No walk of a function. -/
import Derived.Test.YtlmfhdkpgpjbnaaDoorKnows
import Derived.ArgAppend
namespace Go.Proofs.YtlmfhdkpgpjbnaaDoor
open Go Go.RowKit Go.Lib

theorem run_append_apart {P : Program} (w : World) (base : Nat) (t ty e : TypeId) (i : TypeInfo) (z : Value) (size bytes : Nat) (ht : P.underlying t = some (.slice e)) (hi : P.info? e = some i) (hz : i.zero = some z)
    (hsize : i.size = size) (hby : i.bytes = bytes) (hzs : z.cells.size = size) (hsz : 0 < size)
    (v : Value) (n : Nat) (xs : List Value) (hown : w.ownsRow base e size v n xs)
    (a : Addr) (m c : Nat) (news : List Value) (hl : news.length = m * size) (hnews : ∀ j u, news[j]? = some u → w.cell? (a.add j) = some u) (h1 : ∀ u ∈ news, u.oneCell' = true)
    (h63 : n + m ≤ maxLen) (hbytes : (n + m) * bytes ≤ 140737488355328) (hbase : base ≤ w.heap.size) :
    ∃ v' w', (Builtin.append_ #[t, t] ty #[v, .slice (some a) m c]).run P w = .ok v' w' ∧ w'.ownsRow base e size v' (n + m) (xs ++ news) ∧ w.grownBy w' v.ownBlock ∧
      (v'.ownBlock = v.ownBlock ∨ ∀ k, v'.ownBlock = some k → w.heap.size ≤ k) := by
  obtain ⟨v', w', hr, ho, hg, _⟩ := run_append_own (P := P) w base t ty e i z size bytes ht hi hz hsize hby hzs hsz v n xs hown a m c news hl hnews h1 h63 hbytes hbase
  refine ⟨v', w', hr, ho, hg, ?_⟩
  rcases hown.2 with ⟨rfl, rfl⟩ | ⟨g, cap, cur, rfl, hB, hh, hn, hcap, hcs, htake⟩
  · have hx : xs = [] := by have := hown.1; simpa using this
    subst hx
    obtain ⟨v2, w2, hr2, ho2, _, _⟩ := run_append_own (P := P) w w.heap.size t ty e i z size bytes ht hi hz hsize hby hzs hsz _ _ _ (World.ownsRow_nil w w.heap.size e size) a m c news hl hnews h1 h63 hbytes (Nat.le_refl _)
    have e1 := hr.symm.trans hr2
    simp only [Result.ok.injEq] at e1
    obtain ⟨rfl, rfl⟩ := e1
    exact .inr fun k hk => (ho2.lt k hk).1
  · by_cases hroom : n + m ≤ cap
    · have hr2 := run_append_room (P := P) w t ty e i ht hi g n cap cur hh a m c news (by rw [hsize]; exact hl) hnews h1 hroom (by rw [hsize, hcs, hl]; rw [← Nat.add_mul]; exact Nat.mul_le_mul_right _ hroom)
      have e1 := hr.symm.trans hr2
      simp only [Result.ok.injEq] at e1
      obtain ⟨rfl, rfl⟩ := e1
      exact .inl rfl
    · obtain ⟨v2, w2, hr2, ho2, _⟩ := run_append_arg_grows (P := P) w t ty e i z size bytes ht hi hz hsize hby hzs hsz ⟨g, 0, none⟩ n cap xs hown.1 (hown.cells rfl) a m c news hl hnews (by omega) h63 hbytes
      have e1 := hr.symm.trans hr2
      simp only [Result.ok.injEq] at e1
      obtain ⟨rfl, rfl⟩ := e1
      exact .inr fun k hk => (ho2.lt k hk).1

theorem wpList_append_apart {P : Program} (w : World) {ops : Array Oper} {rest : List Oper} {o : Oper} {a : Act} {Q : Exit → Act → World → Prop} (hgd : o.guard = none) (s x : Operand) (t : TypeId)
    (ho : o.op = .call { callee := .builtin .append, args := #[s, x], argTypes := #[t, t] })
    (base : Nat) (e : TypeId) (i : TypeInfo) (z : Value) (size bytes : Nat) (ht : P.underlying t = some (.slice e)) (hi : P.info? e = some i) (hz : i.zero = some z)
    (hsize : i.size = size) (hby : i.bytes = bytes) (hzs : z.cells.size = size) (hsz : 0 < size)
    (v : Value) (n : Nat) (xs : List Value) (hs : a.eval s = v) (hown : w.ownsRow base e size v n xs)
    (ao : Option Addr) (m c : Nat) (news : List Value) (hx : a.eval x = .slice ao m c) (hno : ao = none → m = 0 ∧ c = 0) (hl : news.length = m * size) (hnews : ∀ ad, ao = some ad → ∀ j u, news[j]? = some u → w.cell? (ad.add j) = some u) (h1 : ∀ u ∈ news, u.oneCell' = true)
    (h63 : n + m ≤ maxLen) (hbytes : (n + m) * bytes ≤ 140737488355328) (hbase : base ≤ w.heap.size)
    (h : ∀ v' w', w'.ownsRow base e size v' (n + m) (xs ++ news) → w.grownBy w' v.ownBlock → (v'.ownBlock = v.ownBlock ∨ ∀ k, v'.ownBlock = some k → w.heap.size ≤ k) → wpList P ops Q rest (a.put o.dst v') w') : wpList P ops Q (o :: rest) a w := by
  cases ao with
  | some ad =>
    refine wpList_plain hgd fun _ hK => ?_
    obtain ⟨v', w', hr, h2, h3, h4⟩ := run_append_apart (P := P) w base t o.type e i z size bytes ht hi hz hsize hby hzs hsz v n xs hown ad m c news hl (hnews ad rfl) h1 h63 hbytes hbase
    unfold Oper.wp execOp
    simp only [ho, resolve, invoke, builtin, Sem.run_bind, Sem.run_pure, Result.andThen_ok, List.map_toArray, List.map_cons, List.map_nil, hs, hx, hr]
    exact hK _ _ (h v' w' h2 h3 h4)
  | none =>
    obtain ⟨rfl, rfl⟩ := hno rfl
    obtain rfl : news = [] := List.eq_nil_of_length_eq_zero (by simpa using hl)
    refine wpList_append_own_none hgd s x t ho base e i size ht hi v n xs hs hown hx ?_
    exact h v w (by simpa using hown) ⟨rfl, rfl, rfl, Nat.le_refl _, fun _ _ _ => rfl⟩ (.inl rfl)

theorem own_keys {w : World} {B n : Nat} {v : Value} {ks : List Ky} (h : w.ownsRow B 30 3 v n (keyVals ks)) : ∃ a cap, v = .slice a ks.length cap ∧ (a = none → ks.length = 0 ∧ cap = 0) ∧ (∀ ad, a = some ad → ∀ j u, (keyVals ks)[j]? = some u → w.cell? (ad.add j) = some u) := by
  have hl : ks.length = n := by have := h.1; rw [keyVals_len] at this; omega
  have h2 := h.2
  rcases h2 with ⟨rfl, h0⟩ | ⟨g, cap, cur, rfl, hB, hh, hcap, hmax, _⟩
  · exact ⟨none, 0, by rw [hl, h0], (fun _ => ⟨by omega, rfl⟩), (fun ad he => by cases he)⟩
  · refine ⟨some ⟨g, 0, none⟩, cap, by rw [hl], (fun e => by cases e), fun ad he j u hu => ?_⟩
    cases he
    exact h.cells rfl j u hu

theorem own_but {w w' : World} {B D n : Nat} {v : Value} {xs : List Value} (h : w.ownsRow B 30 3 v n xs) (hb : But (some D) w.heap.size w w') (hD : D < B) : w'.ownsRow B 30 3 v n xs := by
  refine ⟨h.1, ?_⟩
  rcases h.2 with hn | ⟨g, cap, cur, rfl, hB, hg, rest⟩
  · exact .inl hn
  · exact .inr ⟨g, cap, cur, rfl, hB, by rw [hb.block g (Array.getElem?_eq_some_iff.1 hg).1 (by intro e; cases e; omega)]; exact hg, rest⟩

theorem frozen_of {w w' : World} {d : Nat} (h : w'.heap[d]? = w.heap[d]?) : w'.frozen? ⟨d, 0, none⟩ = w.frozen? ⟨d, 0, none⟩ := World.frozen?_of_block (w := w) h

/-- A decoder whose bytes' block and own block stay. -/
theorem DecAt.kept {w w' : World} {d : Nat} {l : List UInt8} {N N' : Nat → Prop} (h : DecAt w d l N) (hs : w.heap.size ≤ w'.heap.size) (hd : w'.heap[d]? = w.heap[d]?) (hk : ∀ k, k < w.heap.size → N k → w'.heap[k]? = w.heap[k]?) (hN : ∀ k, k < w.heap.size → N k → N' k) : DecAt w' d l N' := by
  obtain ⟨hl, hf, a, c, h0, h1, h2, h3, h4, h5, h6⟩ := h
  refine ⟨Nat.lt_of_lt_of_le hl hs, (frozen_of hd).trans hf, a, c, (World.cell?_of_block (w := w) hd).trans h0, ?_, h2, h3, h4, h5, ?_⟩
  · rcases h1 with h1 | ⟨b, off, rfl, hlt, hc⟩
    · exact .inl h1
    · by_cases hz : l.length = 0
      · exact .inl hz
      · exact .inr ⟨b, off, rfl, Nat.lt_of_lt_of_le hlt hs, fun j hj => (World.cell?_of_block (w := w) (hk b hlt (h6 hz _ rfl))).trans (hc j hj)⟩
  · intro hz ad had
    rcases h1 with h1 | ⟨b, off, rfl, hlt, _⟩
    · exact absurd h1 hz
    · cases had
      exact hN _ hlt (h6 hz _ rfl)

/-- What the loop carries. -/
structure St (W : World) (l l1 rest : List UInt8) (ks : List Ky) (r : List UInt8) (v : Value) (a : Option Addr) (c : Nat) (wr : World) : Prop where
  cut : l = l1 ++ rest
  run : Run l1 ks r
  own : wr.ownsRow (W.heap.size + 2) 30 3 v ks.length (keyVals ks)
  dec : DecAt wr W.heap.size r (fun k => v.ownBlock ≠ some k)
  enc : DecAt wr (W.heap.size + 1) [] (fun _ => True)
  bel : Below W.heap.size W wr
  size : W.heap.size + 2 ≤ wr.heap.size
  inn : BytesIn rest a W
  hcap : rest.length ≤ c
  hc63 : c ≤ 9223372036854775807
  hno : a = none → rest.length = 0 ∧ c = 0

theorem St.lens {W : World} {l l1 rest : List UInt8} {ks : List Ky} {r : List UInt8} {v : Value} {a : Option Addr} {c : Nat} {wr : World} (h : St W l l1 rest ks r v a c wr) : r.length + ks.length ≤ l1.length ∧ l1.length + rest.length = l.length := by
  refine ⟨h.run.len, ?_⟩
  rw [h.cut, List.length_append]

/-- What Feed of the first decoder leaves. -/
structure Got (W : World) (wr : World) (r x : List UInt8) (v' : Value) (ks' : List Ky) (r' : List UInt8) (wf : World) : Prop where
  run : Run (r ++ x) ks' r'
  own : wf.ownsRow wr.heap.size 30 3 v' ks'.length (keyVals ks')
  dec : DecAt wf W.heap.size r' (fun k => wr.heap.size ≤ k)
  bel : Below W.heap.size wr wf
  but : But (some W.heap.size) wr.heap.size wr wf

theorem St.done {W : World} {l l1 rest : List UInt8} {ks : List Ky} {r : List UInt8} {v : Value} {a : Option Addr} {c : Nat} {wr wf wg : World} {m : Nat} {v' vg : Value} {ks' : List Ky} {r' : List UInt8} {a' : Option Addr} {c' : Nat}
    (h : St W l l1 rest ks r v a c wr) (g : Got W wr r (rest.take m) v' ks' r' wf) (_hm : m ≤ rest.length)
    (own : wg.ownsRow (W.heap.size + 2) 30 3 vg (ks.length + ks'.length) (keyVals ks ++ keyVals ks')) (gr : wf.grownBy wg v.ownBlock) (hv : vg.ownBlock = v.ownBlock ∨ ∀ k, vg.ownBlock = some k → wf.heap.size ≤ k)
    (inn : BytesIn (rest.drop m) a' W) (hcap : (rest.drop m).length ≤ c') (hc63 : c' ≤ 9223372036854775807) (hno : a' = none → (rest.drop m).length = 0 ∧ c' = 0) :
    St W l (l1 ++ rest.take m) (rest.drop m) (ks ++ ks') r' vg a' c' wg := by
  have hlt := fun k hk => h.own.lt k hk
  have hsf := g.but.size
  have hsz := h.size
  refine ⟨by rw [List.append_assoc, List.take_append_drop]; exact h.cut, h.run.parts g.run, by rw [keyVals_append, List.length_append]; exact own, ?_, ?_, ?_, by have := gr.size; omega, inn, hcap, hc63, hno⟩
  · refine g.dec.kept gr.size (gr.block _ (by omega) ?_) (fun k hk hN => gr.block _ hk ?_) (fun k hk hN => ?_)
    · intro e; have := hlt _ e.symm; omega
    · intro e; have := hlt _ e.symm; omega
    · intro e
      rcases hv with hv | hv
      · rw [hv] at e; have := hlt _ e; omega
      · have := hv _ e; omega
  · have e1 : wf.heap[W.heap.size + 1]? = wr.heap[W.heap.size + 1]? := g.but.block _ (by omega) (by simp)
    have e2 : wg.heap[W.heap.size + 1]? = wf.heap[W.heap.size + 1]? := gr.block _ (by omega) (by intro e; have := hlt _ e.symm; omega)
    obtain ⟨q1, q2, q3, q4, q5, _, q7, q8, q9, q10, _⟩ := h.enc
    exact ⟨by have := gr.size; omega, (frozen_of (e2.trans e1)).trans q2, q3, q4, (World.cell?_of_block (w := wr) (e2.trans e1)).trans q5, .inl rfl, q7, q8, q9, q10, fun hz => absurd rfl hz⟩
  · refine (h.bel.trans g.bel).grown gr (by have := g.but.size; omega) (fun k hk => ?_)
    have := hlt _ hk
    omega
end Go.Proofs.YtlmfhdkpgpjbnaaDoor
