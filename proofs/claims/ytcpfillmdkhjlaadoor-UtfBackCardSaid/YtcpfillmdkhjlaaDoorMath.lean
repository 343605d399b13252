/- Plain arithmetic: the reference's First is what the program's First answers, at any bytes. No conditions. -/
import Derived.Test.YtcpfillmdkhjlaaDoorWalkI
namespace Go.Proofs.YtcpfillmdkhjlaaDoor
open Go Go.RowKit Go.Lib

theorem rl1 {r : Int} (h0 : 0 ≤ r) (h1 : r ≤ 127) : (Lib.runeCells r).length = 1 := by simp [Lib.runeCells, Lib.encodeRuneZ_one h0 h1]
theorem rl2 {r : Int} (h0 : 128 ≤ r) (h1 : r ≤ 2047) : (Lib.runeCells r).length = 2 := by simp [Lib.runeCells, Lib.encodeRuneZ_two h0 h1]
theorem rl3 {r : Int} (h : (2048 ≤ r ∧ r < 55296) ∨ (57343 < r ∧ r ≤ 65535)) : (Lib.runeCells r).length = 3 := by simp [Lib.runeCells, Lib.encodeRuneZ_three h]
theorem rl4 {r : Int} (h0 : 65536 ≤ r) (h1 : r ≤ 1114111) : (Lib.runeCells r).length = 4 := by simp [Lib.runeCells, Lib.encodeRuneZ_four h0 h1]

theorem rl_of {r : Int} (h : Lib.validRune r = true) : (Lib.runeCells r).length = if r ≤ 127 then 1 else if r ≤ 2047 then 2 else if r ≤ 65535 then 3 else 4 := by
  have hv := valid_iff h
  by_cases h1 : r ≤ 127
  · rw [if_pos h1, rl1 (by omega) h1]
  · rw [if_neg h1]
    by_cases h2 : r ≤ 2047
    · rw [if_pos h2, rl2 (by omega) h2]
    · rw [if_neg h2]
      by_cases h3 : r ≤ 65535
      · rw [if_pos h3, rl3 (by omega)]
      · rw [if_neg h3, rl4 (by omega) (by omega)]

theorem valid_of {r : Int} (h : (0 ≤ r ∧ r < 55296) ∨ (57343 < r ∧ r ≤ 1114111)) : Lib.validRune r = true := by
  unfold Lib.validRune
  simpa using h

theorem wholeOf_true {v : Int × Bool} {n : Nat} : (wholeOf v n).2 = true ↔ v.2 = true ∧ Lib.validRune v.1 = true ∧ (Lib.runeCells v.1).length = n := by
  unfold wholeOf
  by_cases h : v.2 = true ∧ Lib.validRune v.1 = true
  · rw [if_pos h]; simp [h.1, h.2]
  · rw [if_neg h]; simp; intro a b; exact absurd ⟨a, b⟩ h
theorem wholeOf_fst {v : Int × Bool} {n : Nat} (h : (wholeOf v n).2 = true) : (wholeOf v n).1 = v.1 := by
  have h' := wholeOf_true.1 h
  unfold wholeOf
  rw [if_pos ⟨h'.1, h'.2.1⟩]

def ok2 (x0 x1 : Nat) : Prop := (194 ≤ x0 ∧ x0 < 224) ∧ (128 ≤ x1 ∧ x1 ≤ 191)
def r3 (x0 x1 x2 : Nat) : Int := 64 * (64 * ((x0 : Int) - 224) + x1 - 128) + x2 - 128
def r4 (x0 x1 x2 x3 : Nat) : Int := 64 * (64 * (64 * ((x0 : Int) - 240) + x1 - 128) + x2 - 128) + x3 - 128
def ok3 (x0 x1 x2 : Nat) : Prop := ((224 ≤ x0 ∧ x0 < 240) ∧ (128 ≤ x1 ∧ x1 ≤ 191) ∧ (128 ≤ x2 ∧ x2 ≤ 191)) ∧ 2048 ≤ r3 x0 x1 x2 ∧ (r3 x0 x1 x2 < 55296 ∨ 57343 < r3 x0 x1 x2)
def ok4 (x0 x1 x2 x3 : Nat) : Prop := ((240 ≤ x0 ∧ x0 < 248) ∧ (128 ≤ x1 ∧ x1 ≤ 191) ∧ (128 ≤ x2 ∧ x2 ≤ 191) ∧ (128 ≤ x3 ∧ x3 ≤ 191)) ∧ 65536 ≤ r4 x0 x1 x2 x3 ∧ r4 x0 x1 x2 x3 ≤ 1114111

theorem w1 (x0 : Nat) : (wholeL [x0]).2 = true ↔ x0 < 128 := by
  unfold wholeL
  rw [wholeOf_true]
  unfold value1
  simp only [decide_eq_true_eq]
  constructor
  · exact fun h => h.1
  · intro h
    exact ⟨h, valid_of (by omega), rl1 (by omega) (by omega)⟩
theorem w1v (x0 : Nat) (h : x0 < 128) : (wholeL [x0]).1 = x0 := by
  have := (w1 x0).2 h
  unfold wholeL at this ⊢
  rw [wholeOf_fst this]; rfl
theorem w2 (x0 x1 : Nat) : (wholeL [x0, x1]).2 = true ↔ ok2 x0 x1 := by
  unfold wholeL
  rw [wholeOf_true]
  unfold value2 ok2
  by_cases h : (192 ≤ x0 ∧ x0 < 224) ∧ (128 ≤ x1 ∧ x1 ≤ 191)
  · rw [if_pos h]
    simp only [true_and]
    constructor
    · rintro ⟨hv, hl⟩
      rw [rl_of hv] at hl
      split at hl
      · omega
      · omega
    · intro h'
      exact ⟨valid_of (by omega), rl2 (by omega) (by omega)⟩
  · rw [if_neg h]
    simp only [Bool.false_eq_true, false_and, false_iff]
    omega
theorem w2v (x0 x1 : Nat) (h : ok2 x0 x1) : (wholeL [x0, x1]).1 = 64 * ((x0 : Int) - 192) + x1 - 128 := by
  have := (w2 x0 x1).2 h
  unfold wholeL at this ⊢
  rw [wholeOf_fst this]
  unfold value2
  unfold ok2 at h
  rw [if_pos (by omega)]
theorem w3 (x0 x1 x2 : Nat) : (wholeL [x0, x1, x2]).2 = true ↔ ok3 x0 x1 x2 := by
  unfold wholeL
  rw [wholeOf_true]
  unfold value3 ok3 r3
  by_cases h : (224 ≤ x0 ∧ x0 < 240) ∧ (128 ≤ x1 ∧ x1 ≤ 191) ∧ (128 ≤ x2 ∧ x2 ≤ 191)
  · rw [if_pos h]
    simp only [true_and]
    constructor
    · rintro ⟨hv, hl⟩
      rw [rl_of hv] at hl
      have := valid_iff hv
      refine ⟨h, ?_⟩
      repeat' split at hl
      all_goals omega
    · intro h'
      exact ⟨valid_of (by omega), rl3 (by omega)⟩
  · rw [if_neg h]
    simp only [Bool.false_eq_true, false_and, false_iff]
    exact fun h' => h h'.1
theorem w3v (x0 x1 x2 : Nat) (h : ok3 x0 x1 x2) : (wholeL [x0, x1, x2]).1 = r3 x0 x1 x2 := by
  have := (w3 x0 x1 x2).2 h
  unfold wholeL at this ⊢
  rw [wholeOf_fst this]
  unfold value3
  rw [if_pos h.1]
  rfl
theorem w4 (x0 x1 x2 x3 : Nat) : (wholeL [x0, x1, x2, x3]).2 = true ↔ ok4 x0 x1 x2 x3 := by
  unfold wholeL
  rw [wholeOf_true]
  unfold value4 ok4 r4
  by_cases h : (240 ≤ x0 ∧ x0 < 248) ∧ (128 ≤ x1 ∧ x1 ≤ 191) ∧ (128 ≤ x2 ∧ x2 ≤ 191) ∧ (128 ≤ x3 ∧ x3 ≤ 191)
  · rw [if_pos h]
    simp only [true_and]
    constructor
    · rintro ⟨hv, hl⟩
      rw [rl_of hv] at hl
      have := valid_iff hv
      refine ⟨h, ?_⟩
      repeat' split at hl
      all_goals omega
    · intro h'
      exact ⟨valid_of (by omega), rl4 (by omega) (by omega)⟩
  · rw [if_neg h]
    simp only [Bool.false_eq_true, false_and, false_iff]
    exact fun h' => h h'.1
theorem w4v (x0 x1 x2 x3 : Nat) (h : ok4 x0 x1 x2 x3) : (wholeL [x0, x1, x2, x3]).1 = r4 x0 x1 x2 x3 := by
  have := (w4 x0 x1 x2 x3).2 h
  unfold wholeL at this ⊢
  rw [wholeOf_fst this]
  unfold value4
  rw [if_pos h.1]
  rfl

instance (x0 x1 : Nat) : Decidable (ok2 x0 x1) := by unfold ok2; infer_instance
instance (x0 x1 x2 : Nat) : Decidable (ok3 x0 x1 x2) := by unfold ok3; infer_instance
instance (x0 x1 x2 x3 : Nat) : Decidable (ok4 x0 x1 x2 x3) := by unfold ok4; infer_instance

/-- The decoder, by what is a whole sequence. -/
theorem decodeN_is (n x0 x1 x2 x3 : Nat) (l0 : x0 < 256) (l1 : x1 < 256) (l2 : x2 < 256) (l3 : x3 < 256) :
    decodeN n x0 x1 x2 x3 = if x0 < 128 then (x0, 1) else if 1 < n ∧ ok2 x0 x1 then ((64 * ((x0 : Int) - 192) + x1 - 128).toNat, 2) else if 2 < n ∧ ok3 x0 x1 x2 then ((r3 x0 x1 x2).toNat, 3) else if 3 < n ∧ ok4 x0 x1 x2 x3 then ((r4 x0 x1 x2 x3).toNat, 4) else (65533, 1) := by
  unfold decodeN ok2 ok3 ok4 r3 r4
  by_cases h0 : x0 < 128
  · rw [if_pos h0, if_pos h0]
  · rw [if_neg h0, if_neg h0]
    rcases (show x0 < 192 ∨ (192 ≤ x0 ∧ x0 < 224) ∨ (224 ≤ x0 ∧ x0 < 240) ∨ (240 ≤ x0 ∧ x0 < 248) ∨ 248 ≤ x0 by omega) with h | h | h | h | h
    · rw [if_neg (by omega), if_neg (by omega), if_neg (by omega), if_neg (by omega), if_neg (by omega), if_neg (by omega)]
    · by_cases c : 1 < n ∧ x1 / 64 = 2
      · rw [if_pos (by omega)]
        by_cases d : 194 ≤ x0
        · rw [if_pos (by omega), if_pos (by omega)]
          apply Prod.ext
          · simp only; omega
          · rfl
        · rw [if_neg (by omega), if_neg (by omega), if_neg (by omega), if_neg (by omega)]
      · rw [if_neg (by omega), if_neg (by omega), if_neg (by omega), if_neg (by omega), if_neg (by omega), if_neg (by omega)]
    · rw [if_neg (by omega)]
      by_cases c : (1 < n ∧ x1 / 64 = 2) ∧ (2 < n ∧ x2 / 64 = 2)
      · rw [if_pos (by omega), if_neg (show ¬ (1 < n ∧ (194 ≤ x0 ∧ x0 < 224) ∧ _) by omega)]
        by_cases d : 2048 ≤ x0 % 16 * 4096 + x1 % 64 * 64 + x2 % 64 ∧ (x0 % 16 * 4096 + x1 % 64 * 64 + x2 % 64 < 55296 ∨ 57344 ≤ x0 % 16 * 4096 + x1 % 64 * 64 + x2 % 64)
        · rw [if_pos (by omega), if_pos (by omega)]
          apply Prod.ext
          · simp only; omega
          · rfl
        · rw [if_neg (by omega), if_neg (by omega), if_neg (by omega)]
      · rw [if_neg (by omega), if_neg (by omega), if_neg (by omega), if_neg (by omega), if_neg (by omega)]
    · rw [if_neg (by omega), if_neg (by omega)]
      by_cases c : (1 < n ∧ x1 / 64 = 2) ∧ (2 < n ∧ x2 / 64 = 2) ∧ (3 < n ∧ x3 / 64 = 2)
      · rw [if_pos (by omega), if_neg (show ¬ (1 < n ∧ (194 ≤ x0 ∧ x0 < 224) ∧ _) by omega), if_neg (show ¬ (2 < n ∧ ((224 ≤ x0 ∧ x0 < 240) ∧ _) ∧ _) by omega)]
        by_cases d : 65536 ≤ x0 % 8 * 262144 + x1 % 64 * 4096 + x2 % 64 * 64 + x3 % 64 ∧ x0 % 8 * 262144 + x1 % 64 * 4096 + x2 % 64 * 64 + x3 % 64 ≤ 1114111
        · rw [if_pos (by omega), if_pos (by omega)]
          apply Prod.ext
          · simp only; omega
          · rfl
        · rw [if_neg (by omega), if_neg (by omega)]
      · rw [if_neg (by omega), if_neg (by omega), if_neg (by omega), if_neg (by omega)]
    · rw [if_neg (by omega), if_neg (by omega), if_neg (by omega), if_neg (by omega), if_neg (by omega), if_neg (by omega)]

theorem pre1 (s : ByteArray) : pre s 1 = [(s.get! 0).toNat] := rfl
theorem pre2 (s : ByteArray) : pre s 2 = [(s.get! 0).toNat, (s.get! 1).toNat] := rfl
theorem pre3 (s : ByteArray) : pre s 3 = [(s.get! 0).toNat, (s.get! 1).toNat, (s.get! 2).toNat] := rfl
theorem pre4 (s : ByteArray) : pre s 4 = [(s.get! 0).toNat, (s.get! 1).toNat, (s.get! 2).toNat, (s.get! 3).toNat] := rfl

theorem okAt_iff (l : List Nat) (n : Nat) : okAt l n = true ↔ (wholeL (pad l 128 n)).2 = true ∨ (wholeL (pad l 191 n)).2 = true := by
  unfold okAt
  simp

/-- The bounds of a second byte. -/
theorem firstT_eq (x0 : Nat) : (firstT x0 = 240 ∧ x0 < 128) ∨ (firstT x0 = 241 ∧ ((128 ≤ x0 ∧ x0 < 194) ∨ 245 ≤ x0)) ∨ (firstT x0 = 2 ∧ 194 ≤ x0 ∧ x0 < 224) ∨ (firstT x0 = 19 ∧ x0 = 224) ∨ (firstT x0 = 3 ∧ ((225 ≤ x0 ∧ x0 < 237) ∨ (238 ≤ x0 ∧ x0 < 240))) ∨ (firstT x0 = 35 ∧ x0 = 237) ∨ (firstT x0 = 52 ∧ x0 = 240) ∨ (firstT x0 = 4 ∧ 241 ≤ x0 ∧ x0 < 244) ∨ (firstT x0 = 68 ∧ x0 = 244) := by
  unfold firstT
  repeat' split
  all_goals omega

theorem full1 (x0 : Nat) (l0 : x0 < 256) (b1 b2 : Nat) : fullN 1 x0 b1 b2 = true ↔ begunL [x0] = false := by
  have e : begunL [x0] = true ↔ ok2 x0 128 ∨ ok2 x0 191 ∨ ok3 x0 128 128 ∨ ok3 x0 191 191 ∨ ok4 x0 128 128 128 ∨ ok4 x0 191 191 191 := by
    have p2 : ∀ y, pad [x0] y 2 = [x0, y] := fun y => rfl
    have p3 : ∀ y, pad [x0] y 3 = [x0, y, y] := fun y => rfl
    have p4 : ∀ y, pad [x0] y 4 = [x0, y, y, y] := fun y => rfl
    simp only [begunL, List.length_singleton, Bool.or_eq_true, Bool.and_eq_true, decide_eq_true_eq, okAt_iff, p2, p3, p4, w2, w3, w4]
    simp [or_assoc]
  rw [← Bool.not_eq_true, e]
  unfold fullN ok2 ok3 ok4 r3 r4
  rcases firstT_eq x0 with h | h | h | h | h | h | h | h | h <;> rw [h.1] <;> simp <;> omega
theorem full2 (x0 x1 : Nat) (l0 : x0 < 256) (l1 : x1 < 256) (b2 : Nat) (h1 : ¬ x0 < 128) (h2 : ¬ ok2 x0 x1) : fullN 2 x0 x1 b2 = true ↔ begunL [x0, x1] = false := by
  have e : begunL [x0, x1] = true ↔ ok3 x0 x1 128 ∨ ok3 x0 x1 191 ∨ ok4 x0 x1 128 128 ∨ ok4 x0 x1 191 191 := by
    have p3 : ∀ y, pad [x0, x1] y 3 = [x0, x1, y] := fun y => rfl
    have p4 : ∀ y, pad [x0, x1] y 4 = [x0, x1, y, y] := fun y => rfl
    simp only [begunL, List.length_cons, List.length_nil, Bool.or_eq_true, Bool.and_eq_true, decide_eq_true_eq, okAt_iff, p3, p4, w3, w4]
    simp [or_assoc]
  rw [← Bool.not_eq_true, e]
  unfold fullN
  unfold ok2 at h2
  unfold ok3 ok4 r3 r4
  rcases firstT_eq x0 with h | h | h | h | h | h | h | h | h <;> rw [h.1] <;> simp [accLo, accHi] <;> omega
theorem full3 (x0 x1 x2 : Nat) (l0 : x0 < 256) (l1 : x1 < 256) (l2 : x2 < 256) (h1 : ¬ x0 < 128) (h2 : ¬ ok2 x0 x1) (h3 : ¬ ok3 x0 x1 x2) : fullN 3 x0 x1 x2 = true ↔ begunL [x0, x1, x2] = false := by
  have e : begunL [x0, x1, x2] = true ↔ ok4 x0 x1 x2 128 ∨ ok4 x0 x1 x2 191 := by
    have p4 : ∀ y, pad [x0, x1, x2] y 4 = [x0, x1, x2, y] := fun y => rfl
    simp only [begunL, List.length_cons, List.length_nil, Bool.or_eq_true, Bool.and_eq_true, decide_eq_true_eq, okAt_iff, p4, w4]
    simp
  rw [← Bool.not_eq_true, e]
  unfold fullN
  unfold ok2 at h2
  unfold ok3 r3 at h3
  unfold ok4 r4
  rcases firstT_eq x0 with h | h | h | h | h | h | h | h | h <;> rw [h.1] <;> simp [accLo, accHi] <;> omega

theorem full_of_ok (n x0 x1 x2 x3 : Nat) (l0 : x0 < 256) (l1 : x1 < 256) (l2 : x2 < 256) (l3 : x3 < 256) (h0 : n ≠ 0) (h : x0 < 128 ∨ (1 < n ∧ ok2 x0 x1) ∨ (2 < n ∧ ok3 x0 x1 x2) ∨ 4 ≤ n) : fullN n x0 x1 x2 = true := by
  unfold fullN
  unfold ok2 ok3 r3 at h
  rw [if_neg h0]
  rcases firstT_eq x0 with k | k | k | k | k | k | k | k | k <;> rw [k.1] <;> simp [accLo, accHi] <;> omega

/-- First: the program's and the reference's are the same. -/
theorem first_same (s : ByteArray) : firstL s = (((firstGo s).1 : Int), (firstGo s).2) := by
  by_cases h0 : s.size = 0
  · rw [firstL_none s (fun m m1 m4 ms => by omega), if_pos (Or.inl h0)]
    unfold firstGo
    rw [if_neg (by rw [h0]; simp [fullN])]
    rfl
  · have l0 := (s.get! 0).toNat_lt
    have l1 := (s.get! 1).toNat_lt
    have l2 := (s.get! 2).toNat_lt
    have l3 := (s.get! 3).toNat_lt
    have hd : Lib.decodeGo s = decodeN s.size (s.get! 0).toNat (s.get! 1).toNat (s.get! 2).toNat (s.get! 3).toNat := by
      simp only [Lib.decodeGo, h0, if_false]
      rw [Lib.decode_at, Nat.sub_zero]
    rw [decodeN_is _ _ _ _ _ (by omega) (by omega) (by omega) (by omega)] at hd
    unfold firstGo
    rw [hd]
    clear hd
    unfold firstL
    rw [pre1, pre2, pre3, pre4]
    have f1 := full1 (s.get! 0).toNat (by omega) (s.get! 1).toNat (s.get! 2).toNat
    have f2 := full2 (s.get! 0).toNat (s.get! 1).toNat (by omega) (by omega) (s.get! 2).toNat
    have f3 := full3 (s.get! 0).toNat (s.get! 1).toNat (s.get! 2).toNat (by omega) (by omega) (by omega)
    have fo := full_of_ok s.size (s.get! 0).toNat (s.get! 1).toNat (s.get! 2).toNat (s.get! 3).toNat (by omega) (by omega) (by omega) (by omega) h0
    have q1 : s.size = 1 → pre s s.size = [(s.get! 0).toNat] := fun h => by rw [h]; rfl
    have q2 : s.size = 2 → pre s s.size = [(s.get! 0).toNat, (s.get! 1).toNat] := fun h => by rw [h]; rfl
    have q3 : s.size = 3 → pre s s.size = [(s.get! 0).toNat, (s.get! 1).toNat, (s.get! 2).toNat] := fun h => by rw [h]; rfl
    generalize (s.get! 0).toNat = x0 at *
    generalize (s.get! 1).toNat = x1 at *
    generalize (s.get! 2).toNat = x2 at *
    generalize (s.get! 3).toNat = x3 at *
    by_cases c1 : x0 < 128
    · rw [if_pos ⟨by omega, (w1 _).2 c1⟩, if_pos (fo (.inl c1)), if_pos c1, w1v x0 c1]
    · rw [if_neg (fun h => c1 ((w1 _).1 h.2))]
      by_cases c2 : 1 < s.size ∧ ok2 x0 x1
      · rw [if_pos ⟨by omega, (w2 _ _).2 c2.2⟩, if_pos (fo (.inr (.inl c2))), if_neg c1, if_pos c2, w2v x0 x1 c2.2]
        have := c2.2
        unfold ok2 at this
        simp only [Prod.mk.injEq, and_true]
        omega
      · rw [if_neg (fun h => c2 ⟨by omega, (w2 _ _).1 h.2⟩)]
        by_cases c3 : 2 < s.size ∧ ok3 x0 x1 x2
        · rw [if_pos ⟨by omega, (w3 _ _ _).2 c3.2⟩, if_pos (fo (.inr (.inr (.inl c3)))), if_neg c1, if_neg c2, if_pos c3, w3v x0 x1 x2 c3.2]
          have := c3.2.2.1
          simp only [Prod.mk.injEq, and_true]
          omega
        · rw [if_neg (fun h => c3 ⟨by omega, (w3 _ _ _).1 h.2⟩)]
          by_cases c4 : 3 < s.size ∧ ok4 x0 x1 x2 x3
          · rw [if_pos ⟨by omega, (w4 _ _ _ _).2 c4.2⟩, if_pos (fo (.inr (.inr (.inr (by omega))))), if_neg c1, if_neg c2, if_neg c3, if_pos c4, w4v x0 x1 x2 x3 c4.2]
            have := c4.2.2.1
            simp only [Prod.mk.injEq, and_true]
            omega
          · rw [if_neg (fun h => c4 ⟨by omega, (w4 _ _ _ _).1 h.2⟩), if_neg c1, if_neg c2, if_neg c3, if_neg c4]
            by_cases hn : 4 ≤ s.size
            · rw [if_neg (by omega), if_pos (fo (.inr (.inr (.inr hn))))]
              rfl
            · have key : fullN s.size x0 x1 x2 = true ↔ begunL (pre s s.size) = false := by
                rcases (show s.size = 1 ∨ s.size = 2 ∨ s.size = 3 by omega) with h | h | h
                · rw [q1 h, h]; exact f1
                · rw [q2 h, h]; exact f2 c1 (fun k => c2 ⟨by omega, k⟩)
                · rw [q3 h, h]; exact f3 c1 (fun k => c2 ⟨by omega, k⟩) (fun k => c3 ⟨by omega, k⟩)
              cases hb : begunL (pre s s.size)
              · rw [if_neg (by rintro (h | ⟨_, h⟩); (· omega); (· cases h)), if_pos (key.2 hb)]
                rfl
              · rw [if_pos (.inr ⟨by omega, rfl⟩), if_neg (fun h => by rw [key.1 h] at hb; cases hb)]
                rfl
end Go.Proofs.YtcpfillmdkhjlaaDoor
