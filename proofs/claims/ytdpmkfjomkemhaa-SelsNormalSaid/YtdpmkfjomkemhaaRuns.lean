/- Pure mathematics of a stable sort's rounds: runs of one length, merged two by two. No walk. -/
import Derived.Test.YtdpmkfjomkemhaaSort
namespace Go.Proofs.Ytdpmkfjomkemhaa
open Go.Sort Go.Proofs

/-- Every run of s places is sorted. -/
def Runs (s n : Nat) (d : Array Sl) : Prop := ∀ r i j, r * s ≤ i → i < j → j < r * s + s → j < n → ltS d[j]! d[i]! = false
/-- The first q pairs of runs are merged. -/
def Mid (s n q : Nat) (d : Array Sl) : Prop :=
  (∀ r i j, r < q → r * (2 * s) ≤ i → i < j → j < r * (2 * s) + 2 * s → ltS d[j]! d[i]! = false) ∧ (∀ r i j, 2 * q ≤ r → r * s ≤ i → i < j → j < r * s + s → j < n → ltS d[j]! d[i]! = false)
theorem before {k r q : Nat} (h : r < q) : r * k + k ≤ q * k := by
  have := Nat.mul_le_mul_right k (show r + 1 ≤ q from h)
  rwa [Nat.add_mul, Nat.one_mul] at this
theorem twice (q s : Nat) : 2 * q * s = q * (2 * s) := by rw [Nat.mul_comm 2 q, Nat.mul_assoc]
theorem mid_start {s n : Nat} {d : Array Sl} (h : Runs s n d) : Mid s n 0 d := ⟨fun r i j h0 => by omega, fun r i j _ h1 h2 h3 h4 => h r i j h1 h2 h3 h4⟩
theorem mid_left {s n q a : Nat} {d : Array Sl} (h : Mid s n q d) (ha : a = q * (2 * s)) (hn : a + s ≤ n) : SortedIn ltS a (a + s) d := fun i j h1 h2 h3 => by
  have := twice q s
  exact h.2 (2 * q) i j (Nat.le_refl _) (by omega) h2 (by omega) (by omega)
theorem mid_right {s n q a b : Nat} {d : Array Sl} (h : Mid s n q d) (ha : a = q * (2 * s)) (hb : b ≤ a + 2 * s) (hn : b ≤ n) : SortedIn ltS (a + s) b d := fun i j h1 h2 h3 => by
  have := twice q s
  have e : (2 * q + 1) * s = a + s := by rw [Nat.add_mul, Nat.one_mul]; omega
  exact h.2 (2 * q + 1) i j (by omega) (by omega) h2 (by omega) (by omega)
theorem mid_step {s n q a : Nat} {d d' : Array Sl} (h : Mid s n q d) (ha : a = q * (2 * s)) (g : Good a (a + 2 * s) d d') (hs : SortedIn ltS a (a + 2 * s) d') : Mid s n (q + 1) d' := by
  constructor
  · intro r i j hr h1 h2 h3
    by_cases c : r = q
    · subst c
      exact hs i j (by omega) h2 (by omega)
    · have := before (k := 2 * s) (show r < q by omega)
      rw [g.out (t := j) (.inl (by omega)), g.out (t := i) (.inl (by omega))]
      exact h.1 r i j (by omega) h1 h2 h3
  · intro r i j hr h1 h2 h3 h4
    have e : (2 * (q + 1)) * s = a + 2 * s := by rw [twice, Nat.add_mul, Nat.one_mul]; omega
    have := Nat.mul_le_mul_right s hr
    rw [g.out (t := j) (.inr (by omega)), g.out (t := i) (.inr (by omega))]
    exact h.2 r i j (by omega) h1 h2 h3 h4
theorem mid_end1 {s n q a : Nat} {d d' : Array Sl} (h : Mid s n q d) (ha : a = q * (2 * s)) (hn : n < a + 2 * s) (g : Good a n d d') (hs : SortedIn ltS a n d') : Runs (2 * s) n d' := by
  intro r i j h1 h2 h3 h4
  rcases Nat.lt_trichotomy r q with c | c | c
  · have := before (k := 2 * s) c
    rw [g.out (t := j) (.inl (by omega)), g.out (t := i) (.inl (by omega))]
    exact h.1 r i j c h1 h2 h3
  · subst c
    exact hs i j (by omega) h2 h4
  · have := before (k := 2 * s) c
    omega
theorem mid_end2 {s n q a : Nat} {d : Array Sl} (h : Mid s n q d) (ha : a = q * (2 * s)) (hn : n < a + 2 * s) (hm : n ≤ a + s) : Runs (2 * s) n d := by
  refine mid_end1 h ha hn (Good.refl _ _ _) fun i j h1 h2 h3 => ?_
  have := twice q s
  exact h.2 (2 * q) i j (Nat.le_refl _) (by omega) h2 (by omega) h3
/-- Runs as long as the whole. -/
theorem runs_end {s n : Nat} {d : Array Sl} (h : Runs s n d) (hn : n ≤ s) : SortedIn ltS 0 n d := fun i j _ h2 h3 => h 0 i j (by omega) h2 (by omega) h3

/-- The first q runs of twenty are sorted. -/
def Firsts (q : Nat) (d : Array Sl) : Prop := ∀ r i j, r < q → r * 20 ≤ i → i < j → j < r * 20 + 20 → ltS d[j]! d[i]! = false
theorem firsts_step {q : Nat} {d d' : Array Sl} (h : Firsts q d) (g : Good (q * 20) (q * 20 + 20) d d') (hs : SortedIn ltS (q * 20) (q * 20 + 20) d') : Firsts (q + 1) d' := fun r i j hr h1 h2 h3 => by
  by_cases c : r = q
  · subst c
    exact hs i j h1 h2 h3
  · rw [g.out (t := j) (.inl (by omega)), g.out (t := i) (.inl (by omega))]
    exact h r i j (by omega) h1 h2 h3
theorem firsts_end {q n : Nat} {d d' : Array Sl} (h : Firsts q d) (hn : n < q * 20 + 20) (g : Good (q * 20) n d d') (hs : SortedIn ltS (q * 20) n d') : Runs 20 n d' := fun r i j h1 h2 h3 h4 => by
  by_cases c : r < q
  · rw [g.out (t := j) (.inl (by omega)), g.out (t := i) (.inl (by omega))]
    exact h r i j c h1 h2 h3
  · exact hs i j (by omega) h2 h4
end Go.Proofs.Ytdpmkfjomkemhaa
