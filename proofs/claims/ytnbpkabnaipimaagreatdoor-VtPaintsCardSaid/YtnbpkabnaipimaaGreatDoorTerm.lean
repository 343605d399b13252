/- What the law VtShows asks of a terminal (TSaid): what it is in memory, what each call does to it. Conditions: none. -/
import Derived.Test.YtnbpkabnaipimaaGreatDoorLaws
import Derived.Test.YtnbpkabnaipimaaGreatDoorShown
namespace Go.Proofs.YtnbpkabnaipimaaGreatDoor
open Go Go.RowKit Go.Lib

/-- Only memory of a set has turned, above a bound. -/
structure Only (F : Nat → Prop) (B : Nat) (w w' : World) : Prop where
  below : Below B w w'
  rest : ∀ k, k < w.heap.size → ¬ F k → w'.heap[k]? = w.heap[k]?
theorem Only.of {F : Nat → Prop} {B : Nat} {w w' : World} (h : Below w.heap.size w w') (hB : B ≤ w.heap.size) : Only F B w w' := ⟨h.mono hB, fun k hk _ => h.block k hk⟩
/-- Bytes that lie outside of a set. -/
def BytesF (F : Nat → Prop) (w : World) (v : Value) (bs : List Int) : Prop := ∃ a c, v = .slice a bs.length c ∧ bs.length ≤ c ∧ (a = none ∧ bs.length = 0 ∧ c = 0 ∨ ∃ b off, a = some ⟨b, off, none⟩) ∧ SeqAt .u8 w a bs.length bs ∧ (bs.length ≠ 0 → ∀ x, a = some x → ¬ F x.block)
theorem BytesF.only {F F' : Nat → Prop} {B : Nat} {w w' : World} {v : Value} {bs : List Int} (h : BytesF F w v bs) (ho : Only F B w w') (hF : ∀ k, F' k → F k ∨ w.heap.size ≤ k) : BytesF F' w' v bs := by
  obtain ⟨a, c, h1, h2, hn, h3, h4⟩ := h
  refine ⟨a, c, h1, h2, hn, ⟨h3.1, ?_⟩, fun hne x hx hf => ?_⟩
  · rcases h3.2 with h0 | ⟨b, off, rfl, hlt, hc⟩
    · exact .inl h0
    · by_cases h0 : bs.length = 0
      · exact .inl h0
      · exact .inr ⟨b, off, rfl, Nat.lt_of_lt_of_le hlt ho.below.size, fun j z hz => (World.cell?_of_block (w := w) (ho.rest b hlt (h4 h0 _ rfl))).trans (hc j z hz)⟩
  · rcases hF _ hf with hf | hf
    · exact h4 hne x hx hf
    · rcases h3.2 with h0 | ⟨b, off, rfl, hlt, hc⟩
      · exact hne h0
      · cases hx
        simp at hf
        omega

theorem BytesN.apart {B : Nat} {F : Nat → Prop} {w : World} {v : Value} {bs : List Int} (h : BytesN B w v bs) (hF : ∀ k, F k → k < B) : BytesF F w v bs := by
  obtain ⟨⟨a, c, rfl, h2, h3, h4⟩, hb⟩ := h
  refine ⟨a, c, rfl, h2, h3, h4, fun _ x hx hf => ?_⟩
  have := hF _ hf
  have := hb _ _ _ rfl x hx
  omega
theorem BytesF.take {F : Nat → Prop} {w : World} {b off n c k : Nat} {bs : List Int} (h : BytesF F w (.slice (some ⟨b, off, none⟩) n c) bs) (hk : k ≤ n) : BytesF F w (.slice (some ⟨b, off, none⟩) k c) (bs.take k) := by
  obtain ⟨a, c', h1, h2, h3, h4, h5⟩ := h
  cases h1
  have hl : (bs.take k).length = k := by rw [List.length_take]; omega
  refine ⟨some ⟨b, off, none⟩, c, by rw [hl], by rw [hl]; omega, .inr ⟨_, _, rfl⟩, ⟨rfl, ?_⟩, fun hne x hx => h5 (by rw [hl] at hne; omega) x hx⟩
  rcases h4.2 with h0 | ⟨b', off', e, hlt, hc⟩
  · exact .inl (by rw [hl]; omega)
  · cases e
    exact .inr ⟨b, off, rfl, hlt, fun j z hz => hc j z (by
      rw [List.getElem?_take] at hz
      split at hz
      · exact hz
      · cases hz)⟩
theorem BytesF.drop {F : Nat → Prop} {w : World} {b off n c k : Nat} {bs : List Int} (h : BytesF F w (.slice (some ⟨b, off, none⟩) n c) bs) (hk : k ≤ n) : BytesF F w (.slice (some ⟨b, off + k, none⟩) (n - k) (c - k)) (bs.drop k) := by
  obtain ⟨a, c', h1, h2, h3, h4, h5⟩ := h
  cases h1
  have hl : (bs.drop k).length = bs.length - k := by rw [List.length_drop]
  refine ⟨some ⟨b, off + k, none⟩, c - k, by rw [hl], by rw [hl]; omega, .inr ⟨_, _, rfl⟩, ⟨rfl, ?_⟩, fun hne x hx hf => ?_⟩
  · rcases h4.2 with h0 | ⟨b', off', e, hlt, hc⟩
    · exact .inl (by rw [hl]; omega)
    · cases e
      exact .inr ⟨b, off + k, rfl, hlt, fun j z hz => (by
        rw [Nat.add_assoc]
        exact hc (k + j) z (by rw [List.getElem?_drop] at hz; exact hz))⟩
  · cases hx
    exact h5 (by rw [hl] at hne; omega) ⟨b, off, none⟩ rfl hf

/-- What the law asks of a terminal. -/
structure TSaid (Wd : World → Prop) (Trm : World → Nat → (Nat → Prop) → Nat → Nat → Scr → List Int → Prop) : Prop where
  foot : ∀ {w p F r c s wt}, Trm w p F r c s wt → ∀ k, F k → k < w.heap.size
  shape : ∀ {w p F r c s wt}, Trm w p F r c s wt → s.g.length = r ∧ ∀ x ∈ s.g, x.length = c
  stay : ∀ {w w' p F r c s wt}, Trm w p F r c s wt → w.heap.size ≤ w'.heap.size → (∀ k, F k → w'.heap[k]? = w.heap[k]?) → Trm w' p F r c s wt
  new : ∀ (r c : Nat) (w : World), Wd w → 1 ≤ r → r ≤ 60 → 1 ≤ c → c ≤ 60 →
    Calls Tryz.prog 10 #[.int .i64 r, .int .i64 c] w fun e w' => ∃ p F, e = .returned (.tuple #[.pointer (some ⟨p, 0, none⟩), .int .i64 0]) ∧ Trm w' p F r c ⟨blankG r c, 0, 0, 0⟩ [] ∧ (∀ k, F k → w.heap.size ≤ k) ∧ Below w.heap.size w w'
  write : ∀ (p : Nat) (F : Nat → Prop) (r c : Nat) (s s' : Scr) (wt bs : List Int) (us : List Tok) (rest : List Int) (v : Value) (B : Nat) (w : World), Wd w → Trm w p F r c s wt → BytesF F w v bs → bs.length ≤ 100000 → wt ++ bs = toksB us ++ rest → (rest = [] ∨ ∃ t c', Begun t rest ∧ Does wd okR s' t c') → Runs s us s' → (∀ k, F k → B ≤ k) → B ≤ w.heap.size → r ≤ 60 → c ≤ 60 →
    Calls Tryz.prog 12 #[.pointer (some ⟨p, 0, none⟩), v] w fun e w' => ∃ F', e = .returned (.tuple #[]) ∧ Trm w' p F' r c s' rest ∧ (∀ k, F' k → F k ∨ w.heap.size ≤ k) ∧ Only F B w w'
  grid : ∀ (p : Nat) (F : Nat → Prop) (r c : Nat) (s : Scr) (wt : List Int) (w : World), Wd w → Trm w p F r c s wt → r ≤ 60 → c ≤ 60 →
    Calls Tryz.prog 11 #[.pointer (some ⟨p, 0, none⟩)] w fun e w' => ∃ a n k, e = .returned (GridV r c a n k) ∧ n = r * c ∧ n ≤ k ∧ w'.ownsRow w.heap.size 41 2 (.slice a n k) n (flat s.g.flatten) ∧ Below w.heap.size w w'
  size : ∀ (p : Nat) (F : Nat → Prop) (r c r' c' : Nat) (s : Scr) (wt : List Int) (B : Nat) (w : World), Wd w → Trm w p F r c s wt → 1 ≤ r' → r' ≤ 60 → 1 ≤ c' → c' ≤ 60 → (∀ k, F k → B ≤ k) → B ≤ w.heap.size →
    Calls Tryz.prog 22 #[.pointer (some ⟨p, 0, none⟩), .int .i64 r', .int .i64 c'] w fun e w' => ∃ F', e = .returned (.int .i64 0) ∧ Trm w' p F' r' c' ⟨blankG r' c', 0, 0, 0⟩ wt ∧ (∀ k, F' k → F k ∨ w.heap.size ≤ k) ∧ Only F B w w'
end Go.Proofs.YtnbpkabnaipimaaGreatDoor
