/- Pure mathematics of a stable sort of selections: rotations, merging two sorted runs that lie side by side. No walk. -/
import Derived.Test.YtdpmkfjomkemhaaGroups
import Derived.Shelf.SlSortCmp.KitK
namespace Go.Proofs.Ytdpmkfjomkemhaa
open Go.Sort Go.Proofs

instance : Inhabited Sl := ⟨⟨0, 0⟩⟩

/-- How the program compares two selections. -/
def cmpI (a b : Int) : Int := if a < b then -1 else if b < a then 1 else 0
def cfS (x y : Sl) : Int := if cmpI x.lo y.lo = 0 then cmpI x.hi y.hi else cmpI x.lo y.lo
abbrev ltS : Sl → Sl → Bool := ltOf cfS
theorem ltS_iff (x y : Sl) : ltS x y = true ↔ x.lo < y.lo ∨ x.lo = y.lo ∧ x.hi < y.hi := by
  unfold ltS ltOf cfS cmpI
  rw [decide_eq_true_iff]
  grind
theorem ltS_not (x y : Sl) : ltS x y = false ↔ ¬ (x.lo < y.lo ∨ x.lo = y.lo ∧ x.hi < y.hi) := by
  rw [← ltS_iff, Bool.not_eq_true]
theorem swoS : SWO ltS := by
  refine ⟨fun x => ?_, fun x y z h1 h2 => ?_, fun x y z h1 h2 => ?_⟩
  · rw [ltS_not]; omega
  · rw [ltS_iff] at *; omega
  · rw [ltS_not] at *; omega

def sameKey (lo hi : Int) (x : Sl) : Bool := decide (x.lo = lo ∧ x.hi = hi)
/-- Of any two with the same span the order is as it was. -/
def Stab (d d' : Array Sl) : Prop := ∀ lo hi, d'.toList.filter (sameKey lo hi) = d.toList.filter (sameKey lo hi)
theorem Stab.refl (d : Array Sl) : Stab d d := fun _ _ => rfl
theorem Stab.trans {d d' d'' : Array Sl} (h : Stab d d') (h' : Stab d' d'') : Stab d d'' := fun lo hi => (h' lo hi).trans (h lo hi)

/-- Selections at places s to s + k. -/
def seg (d : Array Sl) (s k : Nat) : List Sl := (List.range k).map fun i => d[s + i]!
theorem seg_app (d : Array Sl) (s k l : Nat) : seg d s (k + l) = seg d s k ++ seg d (s + k) l := by
  unfold seg
  rw [List.range_add, List.map_append, List.map_map]
  congr 1
  refine List.map_congr_left fun i _ => ?_
  simp only [Function.comp]
  rw [Nat.add_assoc]
theorem seg_all (d : Array Sl) : d.toList = seg d 0 d.size := by
  refine List.ext_getElem (by simp [seg]) fun i h1 h2 => ?_
  have hi : i < d.size := by simpa using h1
  simp [seg, hi]
theorem seg_congr {d d' : Array Sl} {s s' k : Nat} (h : ∀ i, i < k → d[s + i]! = d'[s' + i]!) : seg d s k = seg d' s' k := by
  unfold seg
  exact List.map_congr_left fun i hi => h i (List.mem_range.1 hi)
theorem mem_seg {d : Array Sl} {s k : Nat} {x : Sl} : x ∈ seg d s k ↔ ∃ i, i < k ∧ d[s + i]! = x := by simp [seg]
theorem seg_extract (d : Array Sl) (a b : Nat) (hb : b ≤ d.size) : (d.extract a b).toList = seg d a (b - a) := by
  rw [extract_toList d a b hb, List.range'_eq_map_range, List.map_map]
  rfl

/-- Where a place of a rotated run comes from. -/
def rotI (a m b t : Nat) : Nat := if t < a ∨ b ≤ t then t else if t < a + (b - m) then t + (m - a) else t - (b - m)
/-- The runs from a to m and from m to b have changed places. -/
def Rot (a m b : Nat) (d d' : Array Sl) : Prop := d'.size = d.size ∧ ∀ t, d'[t]! = d[rotI a m b t]!

theorem Rot.self (d : Array Sl) (a m b : Nat) (h : a = m ∨ m = b) (h1 : a ≤ m) (h2 : m ≤ b) : Rot a m b d d :=
  ⟨rfl, fun t => by
    have : rotI a m b t = t := by unfold rotI; split <;> (try split) <;> omega
    rw [this]⟩

theorem Rot.lists {a m b : Nat} {d d' : Array Sl} (h : Rot a m b d d') (h1 : a ≤ m) (h2 : m ≤ b) (h3 : b ≤ d.size) :
    d.toList = seg d 0 a ++ (seg d a (m - a) ++ seg d m (b - m)) ++ seg d b (d.size - b) ∧ d'.toList = seg d 0 a ++ (seg d m (b - m) ++ seg d a (m - a)) ++ seg d b (d.size - b) := by
  constructor
  · rw [seg_all d]
    have e1 : seg d 0 d.size = seg d 0 a ++ seg d a (d.size - a) := by
      have := seg_app d 0 a (d.size - a)
      rwa [Nat.zero_add, show a + (d.size - a) = d.size by omega] at this
    have e2 : seg d a (d.size - a) = seg d a (m - a) ++ seg d m (d.size - m) := by
      have := seg_app d a (m - a) (d.size - m)
      rwa [show a + (m - a) = m by omega, show m - a + (d.size - m) = d.size - a by omega] at this
    have e3 : seg d m (d.size - m) = seg d m (b - m) ++ seg d b (d.size - b) := by
      have := seg_app d m (b - m) (d.size - b)
      rwa [show m + (b - m) = b by omega, show b - m + (d.size - b) = d.size - m by omega] at this
    rw [e1, e2, e3]
    simp only [List.append_assoc]
  · rw [seg_all d', h.1]
    have e1 : seg d' 0 d.size = seg d' 0 a ++ seg d' a (d.size - a) := by
      have := seg_app d' 0 a (d.size - a)
      rwa [Nat.zero_add, show a + (d.size - a) = d.size by omega] at this
    have e2 : seg d' a (d.size - a) = seg d' a (b - m) ++ seg d' (a + (b - m)) (d.size - (a + (b - m))) := by
      have := seg_app d' a (b - m) (d.size - (a + (b - m)))
      rwa [show b - m + (d.size - (a + (b - m))) = d.size - a by omega] at this
    have e3 : seg d' (a + (b - m)) (d.size - (a + (b - m))) = seg d' (a + (b - m)) (m - a) ++ seg d' b (d.size - b) := by
      have := seg_app d' (a + (b - m)) (m - a) (d.size - b)
      rwa [show a + (b - m) + (m - a) = b by omega, show m - a + (d.size - b) = d.size - (a + (b - m)) by omega] at this
    have f1 : seg d' 0 a = seg d 0 a := seg_congr fun i hi => by rw [h.2]; congr 1; unfold rotI; split <;> (try split) <;> omega
    have f2 : seg d' a (b - m) = seg d m (b - m) := seg_congr fun i hi => by rw [h.2]; congr 1; unfold rotI; split <;> (try split) <;> omega
    have f3 : seg d' (a + (b - m)) (m - a) = seg d a (m - a) := seg_congr fun i hi => by rw [h.2]; congr 1; unfold rotI; split <;> (try split) <;> omega
    have f4 : seg d' b (d.size - b) = seg d b (d.size - b) := seg_congr fun i hi => by rw [h.2]; congr 1; unfold rotI; split <;> (try split) <;> omega
    rw [e1, e2, e3, f1, f2, f3, f4]
    simp only [List.append_assoc]

/-- What a sort may do to the places from a to b. -/
def Good (a b : Nat) (d d' : Array Sl) : Prop := PermIn a b d d' ∧ Stab d d'
theorem Good.refl (a b : Nat) (d : Array Sl) : Good a b d d := ⟨permIn_refl d a b, Stab.refl d⟩
theorem Good.trans {a b : Nat} {d d' d'' : Array Sl} (h : Good a b d d') (h' : Good a b d' d'') : Good a b d d'' := ⟨permIn_trans _ _ _ _ _ h.1 h'.1, h.2.trans h'.2⟩
theorem Good.mono {a b a' b' : Nat} {d d' : Array Sl} (h : Good a b d d') (h1 : a' ≤ a) (h2 : b ≤ b') (h3 : b' ≤ d.size) : Good a' b' d d' := ⟨permIn_mono _ _ _ _ _ _ h1 h2 h3 h.1, h.2⟩
theorem Good.size {a b : Nat} {d d' : Array Sl} (h : Good a b d d') : d'.size = d.size := h.1.1
theorem Good.out {a b : Nat} {d d' : Array Sl} (h : Good a b d d') {t : Nat} (ht : t < a ∨ b ≤ t) : d'[t]! = d[t]! := h.1.2.1 t ht

/-- A rotation in which what comes ahead is less: as a stable sort may do it. -/
theorem Rot.good {s m e : Nat} {d d' : Array Sl} (h : Rot s m e d d') (h1 : s ≤ m) (h2 : m ≤ e) (h3 : e ≤ d.size) (hlt : ∀ i j, s ≤ i → i < m → m ≤ j → j < e → ltS d[j]! d[i]! = true) : Good s e d d' := by
  obtain ⟨l1, l2⟩ := h.lists h1 h2 h3
  refine ⟨⟨h.1, fun t ht => ?_, ?_⟩, fun lo hi => ?_⟩
  · rw [h.2]
    congr 1
    unfold rotI
    rw [if_pos ht]
  · rw [seg_extract d' s e (by rw [h.1]; exact h3), seg_extract d s e h3]
    have e1 : seg d s (e - s) = seg d s (m - s) ++ seg d m (e - m) := by
      have := seg_app d s (m - s) (e - m)
      rwa [show s + (m - s) = m by omega, show m - s + (e - m) = e - s by omega] at this
    have e2 : seg d' s (e - s) = seg d' s (e - m) ++ seg d' (s + (e - m)) (m - s) := by
      have := seg_app d' s (e - m) (m - s)
      rwa [show e - m + (m - s) = e - s by omega] at this
    have f2 : seg d' s (e - m) = seg d m (e - m) := seg_congr fun i hi => by rw [h.2]; congr 1; unfold rotI; split <;> (try split) <;> omega
    have f3 : seg d' (s + (e - m)) (m - s) = seg d s (m - s) := seg_congr fun i hi => by rw [h.2]; congr 1; unfold rotI; split <;> (try split) <;> omega
    rw [e1, e2, f2, f3]
    exact List.perm_append_comm
  · rw [l1, l2]
    simp only [List.filter_append]
    congr 2
    by_cases hu : ∃ x ∈ seg d s (m - s), sameKey lo hi x = true
    · obtain ⟨x, hx, hk⟩ := hu
      have : (seg d m (e - m)).filter (sameKey lo hi) = [] := by
        rw [List.filter_eq_nil_iff]
        intro y hy hky
        obtain ⟨i, hi', rfl⟩ := mem_seg.1 hx
        obtain ⟨j, hj', rfl⟩ := mem_seg.1 hy
        have := hlt (s + i) (m + j) (by omega) (by omega) (by omega) (by omega)
        rw [ltS_iff] at this
        simp only [sameKey, decide_eq_true_eq] at hk hky
        omega
      rw [this]
      simp
    · have : (seg d s (m - s)).filter (sameKey lo hi) = [] := by
        rw [List.filter_eq_nil_iff]
        intro y hy hky
        exact hu ⟨y, hy, hky⟩
      rw [this]
      simp

/-- Two neighbours changed places. -/
theorem swp_rot (d : Array Sl) (j : Nat) (h : j + 1 < d.size) : Rot j (j + 1) (j + 2) d (swp d (j + 1) j) :=
  ⟨size_swp _ _ _, fun t => by
    rw [swp_get d h (by omega)]
    unfold rotI
    by_cases h1 : t = j
    · subst h1
      rw [if_pos rfl, if_neg (by omega), if_pos (by omega)]
      congr 1
      omega
    · by_cases h2 : t = j + 1
      · subst h2
        rw [if_neg (by omega), if_pos rfl, if_neg (by omega), if_neg (by omega)]
        congr 1
        omega
      · rw [if_neg h1, if_neg h2, if_pos (by omega)]⟩

theorem insInner_stab (a : Nat) : ∀ (j : Nat) (d : Array Sl), j < d.size → Stab d (insInner ltS a j d)
  | 0, d, _ => by unfold insInner; exact Stab.refl d
  | j + 1, d, h => by
    unfold insInner
    split
    · rename_i hc
      simp only [Bool.and_eq_true, decide_eq_true_eq] at hc
      have g := (swp_rot d j h).good (by omega) (by omega) (by omega) (fun i k h1 h2 h3 h4 => by
        obtain rfl : i = j := by omega
        obtain rfl : k = i + 1 := by omega
        exact hc.2)
      exact g.2.trans (insInner_stab a j _ (by rw [size_swp]; omega))
    · exact Stab.refl d
theorem insInner_size (a : Nat) : ∀ (j : Nat) (d : Array Sl), (insInner ltS a j d).size = d.size
  | 0, d => by unfold insInner; rfl
  | j + 1, d => by
    unfold insInner
    split
    · rw [insInner_size a j, size_swp]
    · rfl
theorem insOuter_stab (a b : Nat) : ∀ (n i : Nat) (d : Array Sl), b - i = n → b ≤ d.size → Stab d (insOuter ltS a b i d)
  | 0, i, d, hn, _ => by
    rw [insOuter, if_neg (by omega)]
    exact Stab.refl d
  | n + 1, i, d, hn, hb => by
    rw [insOuter, if_pos (by omega)]
    exact (insInner_stab a i d (by omega)).trans (insOuter_stab a b n (i + 1) _ (by omega) (by rw [insInner_size]; exact hb))
/-- The insertion sort. -/
theorem ins_good (d : Array Sl) (a b : Nat) (hab : a ≤ b) (hb : b ≤ d.size) : Good a b d (insertionSort ltS d a b) ∧ SortedIn ltS a b (insertionSort ltS d a b) := by
  have h := insertionSort_holds (lt := ltS) swoS d a b hab hb
  exact ⟨⟨h.1, insOuter_stab a b _ _ d rfl hb⟩, h.2⟩

/-- One that is put into a sorted run behind it. -/
theorem one_left {d d' : Array Sl} {a i b : Nat} (h : Rot a (a + 1) i d d') (h1 : a + 1 ≤ i) (h2 : i ≤ b) (h3 : b ≤ d.size) (hs : SortedIn ltS (a + 1) b d)
    (hl : ∀ t, a + 1 ≤ t → t < i → ltS d[t]! d[a]! = true) (hr : ∀ t, i ≤ t → t < b → ltS d[t]! d[a]! = false) : Good a b d d' ∧ SortedIn ltS a b d' := by
  refine ⟨(h.good (by omega) h1 (by omega) (fun p q p1 p2 q1 q2 => ?_)).mono (Nat.le_refl _) h2 h3, fun p q hp hpq hq => ?_⟩
  · obtain rfl : p = a := by omega
    exact hl q q1 q2
  · rw [h.2, h.2]
    have e : ∀ t, a ≤ t → t < b → rotI a (a + 1) i t = if t + 1 < i then t + 1 else if t + 1 = i then a else t := fun t t1 t2 => by
      unfold rotI
      repeat' split
      all_goals omega
    rw [e q (by omega) hq, e p hp (by omega)]
    by_cases c1 : q + 1 < i
    · rw [if_pos c1, if_pos (by omega)]
      exact hs (p + 1) (q + 1) (by omega) (by omega) (by omega)
    · rw [if_neg c1]
      by_cases c2 : q + 1 = i
      · rw [if_pos c2, if_pos (by omega)]
        exact swoS.asymmA (hl (p + 1) (by omega) (by omega))
      · rw [if_neg c2]
        by_cases c3 : p + 1 < i
        · rw [if_pos c3]
          exact hs (p + 1) q (by omega) (by omega) (by omega)
        · rw [if_neg c3]
          by_cases c4 : p + 1 = i
          · rw [if_pos c4]
            exact hr q (by omega) hq
          · rw [if_neg c4]
            exact hs p q (by omega) hpq hq
/-- One that is put into a sorted run ahead of it. -/
theorem one_right {d d' : Array Sl} {a i m : Nat} (h : Rot i m (m + 1) d d') (h1 : a ≤ i) (h2 : i ≤ m) (h3 : m + 1 ≤ d.size) (hs : SortedIn ltS a m d)
    (hl : ∀ t, a ≤ t → t < i → ltS d[m]! d[t]! = false) (hr : ∀ t, i ≤ t → t < m → ltS d[m]! d[t]! = true) : Good a (m + 1) d d' ∧ SortedIn ltS a (m + 1) d' := by
  refine ⟨(h.good h2 (by omega) (by omega) (fun p q p1 p2 q1 q2 => ?_)).mono h1 (Nat.le_refl _) h3, fun p q hp hpq hq => ?_⟩
  · obtain rfl : q = m := by omega
    exact hr p p1 p2
  · rw [h.2, h.2]
    have e : ∀ t, a ≤ t → t < m + 1 → rotI i m (m + 1) t = if t < i then t else if t = i then m else t - 1 := fun t t1 t2 => by
      unfold rotI
      repeat' split
      all_goals omega
    rw [e q (by omega) hq, e p hp (by omega)]
    by_cases c1 : q < i
    · rw [if_pos c1, if_pos (by omega)]
      exact hs p q (by omega) hpq (by omega)
    · rw [if_neg c1]
      by_cases c2 : q = i
      · rw [if_pos c2, if_pos (by omega)]
        exact hl p hp (by omega)
      · rw [if_neg c2]
        by_cases c3 : p < i
        · rw [if_pos c3]
          exact hs p (q - 1) hp (by omega) (by omega)
        · rw [if_neg c3]
          by_cases c4 : p = i
          · rw [if_pos c4]
            exact swoS.asymmA (hr (q - 1) (by omega) (by omega))
          · rw [if_neg c4]
            exact hs (p - 1) (q - 1) (by omega) (by omega) (by omega)

/-- The great way: where the two runs are parted. s + e = mid + m. -/
theorem parted {d d1 : Array Sl} {a s m e b mid : Nat} (hrot : Rot s m e d d1) (hsum : s + e = mid + m) (h1 : a ≤ s) (h2 : s ≤ m) (h3 : m ≤ e) (h4 : e ≤ b) (h5 : b ≤ d.size)
    (hs1 : SortedIn ltS a m d) (hs2 : SortedIn ltS m b d) (hlt : s < m → m < e → ltS d[e - 1]! d[s]! = true) (hge : a < s → e < b → ltS d[e]! d[s - 1]! = false) :
    Good a b d d1 ∧ SortedIn ltS a s d1 ∧ SortedIn ltS s mid d1 ∧ SortedIn ltS mid e d1 ∧ SortedIn ltS e b d1 ∧ ∀ i j, a ≤ i → i < mid → mid ≤ j → j < b → ltS d1[j]! d1[i]! = false := by
  have le : ∀ i j, a ≤ i → i ≤ j → j < m → ltS d[j]! d[i]! = false := fun i j p1 p2 p3 => by
    by_cases c : i = j
    · subst c; exact swoS.irrefl _
    · exact hs1 i j p1 (by omega) p3
  have le' : ∀ i j, m ≤ i → i ≤ j → j < b → ltS d[j]! d[i]! = false := fun i j p1 p2 p3 => by
    by_cases c : i = j
    · subst c; exact swoS.irrefl _
    · exact hs2 i j p1 (by omega) p3
  have lt : ∀ i j, s ≤ i → i < m → m ≤ j → j < e → ltS d[j]! d[i]! = true := fun i j p1 p2 p3 p4 => by
    have k1 := le s i h1 p1 p2
    have k2 := le' j (e - 1) p3 (by omega) (by omega)
    have k3 := hlt (by omega) (by omega)
    rw [ltS_iff] at *
    rw [ltS_not] at *
    omega
  have ge : ∀ i j, a ≤ i → i < s → e ≤ j → j < b → ltS d[j]! d[i]! = false := fun i j p1 p2 p3 p4 => by
    have k1 := le i (s - 1) p1 (by omega) (by omega)
    have k2 := le' e j h3 p3 p4
    have k3 := hge (by omega) (by omega)
    rw [ltS_not] at *
    omega
  have hmid : s + (e - m) = mid := by omega
  have e1 : ∀ t, t < s → rotI s m e t = t := fun t h => by unfold rotI; rw [if_pos (by omega)]
  have e2 : ∀ t, s ≤ t → t < mid → rotI s m e t = t + (m - s) := fun t h h' => by unfold rotI; rw [if_neg (by omega), if_pos (by omega)]
  have e3 : ∀ t, mid ≤ t → t < e → rotI s m e t = t - (e - m) := fun t h h' => by unfold rotI; rw [if_neg (by omega), if_neg (by omega)]
  have e4 : ∀ t, e ≤ t → rotI s m e t = t := fun t h => by unfold rotI; rw [if_pos (by omega)]
  refine ⟨(hrot.good h2 h3 (by omega) lt).mono h1 h4 h5, fun i j p1 p2 p3 => ?_, fun i j p1 p2 p3 => ?_, fun i j p1 p2 p3 => ?_, fun i j p1 p2 p3 => ?_, fun i j p1 p2 p3 p4 => ?_⟩
  · rw [hrot.2, hrot.2, e1 _ (by omega), e1 _ (by omega)]
    exact hs1 i j p1 p2 (by omega)
  · rw [hrot.2, hrot.2, e2 _ (by omega) (by omega), e2 _ (by omega) (by omega)]
    exact hs2 _ _ (by omega) (by omega) (by omega)
  · rw [hrot.2, hrot.2, e3 _ (by omega) (by omega), e3 _ (by omega) (by omega)]
    exact hs1 _ _ (by omega) (by omega) (by omega)
  · rw [hrot.2, hrot.2, e4 _ (by omega), e4 _ (by omega)]
    exact hs2 i j (by omega) p2 p3
  · rw [hrot.2, hrot.2]
    by_cases c1 : i < s
    · rw [e1 _ c1]
      by_cases c2 : j < e
      · rw [e3 _ p3 c2]
        exact le _ _ p1 (by omega) (by omega)
      · rw [e4 _ (by omega)]
        exact ge _ _ p1 c1 (by omega) p4
    · rw [e2 _ (by omega) p2]
      by_cases c2 : j < e
      · rw [e3 _ p3 c2]
        exact swoS.asymmA (lt _ _ (by omega) (by omega) (by omega) (by omega))
      · rw [e4 _ (by omega)]
        exact le' _ _ (by omega) (by omega) p4

/-- Both halves sorted, and nothing in the second less than anything in the first. -/
theorem halves {d1 d2 d3 : Array Sl} {a mid b : Nat} (h1 : a ≤ mid) (h2 : mid ≤ b) (hb : b ≤ d1.size) (g1 : Good a mid d1 d2) (g2 : Good mid b d2 d3) (s1 : SortedIn ltS a mid d2) (s2 : SortedIn ltS mid b d3)
    (hc : ∀ i j, a ≤ i → i < mid → mid ≤ j → j < b → ltS d1[j]! d1[i]! = false) : Good a b d1 d3 ∧ SortedIn ltS a b d3 := by
  have z := g1.size
  refine ⟨(g1.mono (Nat.le_refl _) h2 hb).trans (g2.mono h1 (Nat.le_refl _) (by omega)), fun i j p1 p2 p3 => ?_⟩
  by_cases c1 : j < mid
  · rw [g2.out (.inl c1), g2.out (.inl (by omega))]
    exact s1 i j p1 p2 c1
  · by_cases c2 : mid ≤ i
    · exact s2 i j c2 p2 p3
    · rw [g2.out (t := i) (.inl (by omega))]
      refine permIn_all d2 d3 mid b (fun y => ltS y d2[i]! = false) (by omega) g2.1 (fun q q1 q2 => ?_) j (by omega) p3
      rw [g1.out (t := q) (.inr q1)]
      exact permIn_all d1 d2 a mid (fun x => ltS d1[q]! x = false) (by omega) g1.1 (fun r r1 r2 => hc r q r1 r2 q1 q2) i p1 (by omega)

/-- Ranges of the same length changed places. -/
def swr (a b : Nat) : Nat → Array Sl → Array Sl
  | 0, d => d
  | n + 1, d => swp (swr a b n d) (a + n) (b + n)
theorem swr_size (a b : Nat) : ∀ (n : Nat) (d : Array Sl), (swr a b n d).size = d.size
  | 0, _ => rfl
  | n + 1, d => by rw [swr, size_swp, swr_size a b n d]
theorem swr_get (a b : Nat) : ∀ (n : Nat) (d : Array Sl), a + n ≤ b → b + n ≤ d.size → ∀ t, (swr a b n d)[t]! = d[if a ≤ t ∧ t < a + n then t + (b - a) else if b ≤ t ∧ t < b + n then t - (b - a) else t]!
  | 0, d, _, _, t => by
    rw [swr, if_neg (by omega), if_neg (by omega)]
  | n + 1, d, h1, h2, t => by
    have ih := swr_get a b n d (by omega) (by omega)
    rw [swr, swp_get _ (by rw [swr_size]; omega) (by rw [swr_size]; omega), ih, ih, ih]
    by_cases c1 : t = b + n
    · subst c1
      rw [if_pos rfl]
      congr 1
      repeat' split
      all_goals omega
    · rw [if_neg c1]
      by_cases c2 : t = a + n
      · subst c2
        rw [if_pos rfl]
        congr 1
        repeat' split
        all_goals omega
      · rw [if_neg c2]
        congr 1
        repeat' split
        all_goals omega

/-- A rotation's rounds: i is left of m, j is right of it. -/
def Left (a m b i j : Nat) (d dk : Array Sl) : Prop := dk.size = d.size ∧ ∀ t, dk[rotI (m - i) m (m + j) t]! = d[rotI a m b t]!
theorem left_start (d : Array Sl) {a m b : Nat} (h1 : a ≤ m) (h2 : m ≤ b) : Left a m b (m - a) (b - m) d d :=
  ⟨rfl, fun t => by rw [show m - (m - a) = a by omega, show m + (b - m) = b by omega]⟩
theorem left_gt {d dk : Array Sl} {a m b i j : Nat} (h : Left a m b i j d dk) (hi : i ≤ m) (hj : m + j ≤ d.size) (hij : j < i) : Left a m b (i - j) j d (swr (m - i) m j dk) := by
  refine ⟨by rw [swr_size]; exact h.1, fun t => ?_⟩
  rw [swr_get (m - i) m j dk (by omega) (by rw [h.1]; omega), ← h.2 t]
  congr 1
  unfold rotI
  repeat' split
  all_goals omega
theorem left_lt {d dk : Array Sl} {a m b i j : Nat} (h : Left a m b i j d dk) (hi : i ≤ m) (hj : m + j ≤ d.size) (hij : i < j) : Left a m b i (j - i) d (swr (m - i) (m + j - i) i dk) := by
  refine ⟨by rw [swr_size]; exact h.1, fun t => ?_⟩
  rw [swr_get (m - i) (m + j - i) i dk (by omega) (by rw [h.1]; omega), ← h.2 t]
  congr 1
  unfold rotI
  repeat' split
  all_goals omega
theorem left_end {d dk : Array Sl} {a m b i : Nat} (h : Left a m b i i d dk) (hi : i ≤ m) (hj : m + i ≤ d.size) : Rot a m b d (swr (m - i) m i dk) := by
  refine ⟨by rw [swr_size]; exact h.1, fun t => ?_⟩
  rw [swr_get (m - i) m i dk (by omega) (by rw [h.1]; omega), ← h.2 t]
  congr 1
  unfold rotI
  repeat' split
  all_goals omega

/-- A neighbour moves on, to the right or to the left: a rotation by one. -/
theorem rot_right {d dk : Array Sl} {a k : Nat} (h : Rot a (a + 1) (k + 1) d dk) (ha : a ≤ k) (hk : k + 1 < d.size) : Rot a (a + 1) (k + 2) d (swp dk k (k + 1)) := by
  refine ⟨by rw [size_swp]; exact h.1, fun t => ?_⟩
  rw [swp_get dk (by rw [h.1]; omega) (by rw [h.1]; exact hk), h.2, h.2, h.2]
  unfold rotI
  repeat' split
  all_goals (congr 1 <;> omega)
theorem rot_left {d dk : Array Sl} {m k : Nat} (h : Rot (k + 1) m (m + 1) d dk) (ha : k + 1 ≤ m) (hk : m < d.size) : Rot k m (m + 1) d (swp dk (k + 1) k) := by
  refine ⟨by rw [size_swp]; exact h.1, fun t => ?_⟩
  rw [swp_get dk (by rw [h.1]; omega) (by rw [h.1]; omega), h.2, h.2, h.2]
  unfold rotI
  repeat' split
  all_goals (congr 1 <;> omega)

end Go.Proofs.Ytdpmkfjomkemhaa
