/- Tokens but runes as sequences: 27, 91, a body of digits and semicolons, one last byte; and beginnings of them. No walk. -/
import Derived.Test.YtnbpkabnaipimaaDoorBytes
namespace Go.Proofs.YtnbpkabnaipimaaDoor

/-- The body and the last byte of a token's sequence. -/
def seqOf : Tok → Option (List Int × Int)
  | .goto r => some (digits ((r : Int) + 1) ++ [59, 49], 72)
  | .style s => some ([48] ++ (if s % 2 = 1 then [59, 55] else []) ++ (if s / 2 % 2 = 1 then [59, 52] else []) ++ (if s / 4 = 1 then [59, 49] else []), 109)
  | .clear => some ([50], 74)
  | .rune _ => none
theorem seq_bytes {t : Tok} {b : List Int} {x : Int} (h : seqOf t = some (b, x)) : tokB t = 27 :: 91 :: (b ++ [x]) := by
  cases t with
  | goto r =>
    simp only [seqOf, Option.some.injEq, Prod.mk.injEq] at h
    obtain ⟨rfl, rfl⟩ := h
    simp [tokB, headB]
  | style s =>
    simp only [seqOf, Option.some.injEq, Prod.mk.injEq] at h
    obtain ⟨rfl, rfl⟩ := h
    simp [tokB, styleB]
  | clear =>
    simp only [seqOf, Option.some.injEq, Prod.mk.injEq] at h
    obtain ⟨rfl, rfl⟩ := h
    rfl
  | rune c => cases h
/-- What a token of painting is: a row from 0 to 98, a style from 0 to 7. -/
def Fits : Tok → Prop
  | .goto r => r ≤ 98
  | .style s => 0 ≤ s ∧ s ≤ 7
  | _ => True
theorem digits_in {n : Int} (h0 : 0 ≤ n) (h1 : n ≤ 99) : ∀ x ∈ digits n, 48 ≤ x ∧ x ≤ 57 := by
  intro x hx
  unfold digits at hx
  split at hx
  · simp at hx
    omega
  · simp at hx
    omega
theorem seq_body {t : Tok} {b : List Int} {x : Int} (h : seqOf t = some (b, x)) (hf : Fits t) : (∀ y ∈ b, 48 ≤ y ∧ y ≤ 59) ∧ b.length ≤ 7 ∧ 64 ≤ x ∧ x ≤ 126 := by
  cases t with
  | goto r =>
    simp only [seqOf, Option.some.injEq, Prod.mk.injEq] at h
    obtain ⟨rfl, rfl⟩ := h
    have hf' : r ≤ 98 := hf
    refine ⟨fun y hy => ?_, ?_, by omega, by omega⟩
    · rw [List.mem_append] at hy
      rcases hy with hy | hy
      · have := digits_in (n := (r : Int) + 1) (by omega) (by omega) y hy
        omega
      · simp at hy
        omega
    · unfold digits
      split <;> simp
  | style s =>
    simp only [seqOf, Option.some.injEq, Prod.mk.injEq] at h
    obtain ⟨rfl, rfl⟩ := h
    refine ⟨?_, ?_, by omega, by omega⟩
    · intro y hy
      simp only [List.mem_append] at hy
      rcases hy with ((hy | hy) | hy) | hy
      · simp at hy; omega
      all_goals
        split at hy
        · simp at hy; omega
        · simp at hy
    · simp only [List.length_append, List.length_cons, List.length_nil]
      repeat' split
      all_goals simp
  | clear =>
    simp only [seqOf, Option.some.injEq, Prod.mk.injEq] at h
    obtain ⟨rfl, rfl⟩ := h
    exact ⟨by simp, by simp, by omega, by omega⟩
  | rune c => cases h
/-- A beginning of a sequence: nothing, its first byte, or its first two and a beginning of its body. -/
theorem begun_seq {t : Tok} {b : List Int} {x : Int} (h : seqOf t = some (b, x)) {p : List Int} (hp : Begun t p) : p = [] ∨ p = [27] ∨ ∃ b' b'', b = b' ++ b'' ∧ p = 27 :: 91 :: b' := by
  obtain ⟨q, hq, he⟩ := hp
  rw [seq_bytes h] at he
  match p, he with
  | [], _ => exact .inl rfl
  | [a], he =>
    simp only [List.singleton_append, List.cons.injEq] at he
    exact .inr (.inl (by rw [he.1]))
  | a :: c :: p, he =>
    simp only [List.cons_append, List.cons.injEq] at he
    obtain ⟨rfl, rfl, he⟩ := he
    refine .inr (.inr ?_)
    rcases List.eq_nil_or_concat q with rfl | ⟨q', y, rfl⟩
    · exact absurd rfl hq
    · rw [List.concat_eq_append, ← List.append_assoc] at he
      have := List.append_inj_left' he rfl
      exact ⟨p, q', this.symm, rfl⟩
end Go.Proofs.YtnbpkabnaipimaaDoor
