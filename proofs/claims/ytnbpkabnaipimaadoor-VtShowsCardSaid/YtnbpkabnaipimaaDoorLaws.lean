/- What the laws ask of the program's functions (Said); the law VtPaints over it. Conditions: the grids' cells lie in memory. -/
import Derived.Test.YtnbpkabnaipimaaDoorToks
import Derived.Test.YtnbpkabnaipimaaDoorAs
import Derived.Deep.RegionWith
import Derived.Laws.BytesArg
namespace Go.Proofs.YtnbpkabnaipimaaDoor
open Go Go.RowKit Go.Lib

/-- A grid as a value. -/
abbrev GridV (R C : Int) (a : Option Addr) (n cap : Nat) : Value := .agg #[.int .i64 R, .int .i64 C, .slice a n cap]
/-- Are both of one size? -/
def sizeSame (R C Q D : Int) (fn tn : Nat) : Bool := decide (R = Q) && decide (C = D) && decide (fn = tn)
/-- Bytes in memory, as a value. -/
def BytesV (w : World) (v : Value) (bs : List Int) : Prop := ∃ a c, v = .slice a bs.length c ∧ bs.length ≤ c ∧ (a = none ∧ bs.length = 0 ∧ c = 0 ∨ ∃ b off, a = some ⟨b, off, none⟩) ∧ SeqAt .u8 w a bs.length bs
theorem BytesV.below {w w' : World} {v : Value} {bs : List Int} (h : BytesV w v bs) (hb : Below w.heap.size w w') : BytesV w' v bs := by
  obtain ⟨a, c, h1, h2, h3, h4⟩ := h
  exact ⟨a, c, h1, h2, h3, h4.below hb⟩
theorem own_bytesV {w : World} {B n : Nat} {v : Value} {bs : List Int} (h : w.ownsRow B 5 1 v n (byV bs)) : BytesV w v bs := by
  have hl := h.1
  rw [byV_len] at hl
  obtain rfl : n = bs.length := by omega
  obtain ⟨a, c, h1, h2, h3, h4⟩ := own_bytes h
  refine ⟨a, c, h1, h2, ?_, h4⟩
  rcases h.2 with ⟨rfl, h0⟩ | ⟨g, k, cur, rfl, _⟩
  · simp only [Value.slice.injEq] at h1
    obtain ⟨rfl, _, rfl⟩ := h1
    exact .inl ⟨rfl, h3 rfl⟩
  · simp only [Value.slice.injEq] at h1
    obtain ⟨rfl, _, rfl⟩ := h1
    exact .inr ⟨_, _, rfl⟩

/-- string(b), of bytes that lie in memory. -/
theorem conv_bytesV {w : World} {v : Value} {bs : List Int} (h : BytesV w v bs) : (convert 32 9 v).run Tryd.prog w = .ok (.string (strOfNums bs)) w := by
  obtain ⟨a, c, rfl, _, _, hl, h0 | ⟨b, off, rfl, hlt, hc⟩⟩ := h
  · obtain rfl : bs = [] := List.eq_nil_of_length_eq_zero h0
    rw [List.length_nil, run_convert_bytes_string w 32 9 5 a 0 c Tryd.underlying32 Tryd.underlying5 Tryd.underlying9]
    cases a <;> simp [Conv.bytesToString, loadCells]
    all_goals rfl
  · refine run_convert_bytes_arg (P := Tryd.prog) w 32 5 Tryd.underlying32 Tryd.underlying5 b off bs.length c bs rfl (fun i hi => ?_) 9 Tryd.underlying9
    rw [hc i (bs.getD i 0) (by rw [List.getD_eq_getElem?_getD, List.getElem?_eq_getElem hi]; rfl)]

theorem prp_all {R C : Int} {l : List Cl} (h : Prp R C l) : ∀ c ∈ l, mayR c.r ∧ 0 ≤ c.s ∧ c.s ≤ 7 := by
  intro c hc
  obtain ⟨i, hi, rfl⟩ := List.getElem_of_mem hc
  obtain ⟨d, hd, h0, h7, hz, hn⟩ := h.2.2.2.2.2 i hi
  rw [List.getElem?_eq_getElem hi] at hd
  cases hd
  refine ⟨?_, h0, h7⟩
  by_cases hr : (l[i]).r = 0
  · exact .inl hr
  · exact .inr (okR_valid (hn hr).1)

/-- Bytes in new memory. -/
def BytesN (B : Nat) (w : World) (v : Value) (bs : List Int) : Prop := BytesV w v bs ∧ ∀ a n c, v = .slice a n c → ∀ x, a = some x → B ≤ x.block

/-- What Paint answers. -/
def GotB (R C Q D : Int) (fn tn : Nat) (f t : List Cl) (w : World) (e : Ending) (w' : World) : Prop :=
  ∃ v, Below w.heap.size w w' ∧ ((¬ Prp Q D t ∧ e = .returned (.tuple #[v, .int .i64 1]) ∧ BytesN w.heap.size w' v []) ∨
    (Prp Q D t ∧ e = .returned (.tuple #[v, .int .i64 0]) ∧ BytesN w.heap.size w' v (paintP (sizeSame R C Q D fn tn) Q.toNat D.toNat f t)))

/-- What the laws ask of the program's Proper and Paint. -/
structure Said0 (Wd : World → Prop) : Prop where
  keep : ∀ {w w' : World}, Wd w → Below w.heap.size w w' → Wd w'
  proper : ∀ (R C : Int) (a : Option Addr) (n cap : Nat) (l : List Cl) (w : World), Wd w → n ≤ 1000 → n ≤ cap → RowAt w a n l → Calls Tryd.prog 4 #[GridV R C a n cap] w (GotP R C l w)
  paint : ∀ (R C : Int) (fa : Option Addr) (fn fc : Nat) (f : List Cl) (Q D : Int) (ta : Option Addr) (tn tc : Nat) (t : List Cl) (w : World), Wd w → fn ≤ 1000 → tn ≤ 1000 → fn ≤ fc → tn ≤ tc → RowAt w fa fn f → RowAt w ta tn t →
    Calls Tryd.prog 7 #[GridV R C fa fn fc, GridV Q D ta tn tc] w (GotB R C Q D fn tn f t w)
/-- What the laws ask of the program's functions. -/
structure Said (Wd : World → Prop) : Prop extends Said0 Wd where
  knows : ∀ w, Wd w → Calls Tryd.prog 5 #[] w fun e w' => e = .returned (.bool true) ∧ Below w.heap.size w w'

section
variable {Wd : World → Prop} (S : Said Wd)
include S
end
end Go.Proofs.YtnbpkabnaipimaaDoor
