/- What each deed comes to, on both sides, in one wording: Insert and Delete of the rope and of the reference; few. -/
import Derived.Test.YtlijkejadjkbcaaRefB
import Derived.Test.YtlijkejadjkbcaaRefC
namespace Go.Proofs.Ytlijkejadjkbcaa
open Go Go.RowKit

/-- A text that the law keeps: runes in memory, in another block than rb. -/
structure Txt (w : World) (rb : Nat) (a : Option Addr) (n c : Nat) (ts : List Int) : Prop where
  seqb : SeqB w (some rb) a n ts
  le : n ≤ c
  none : a = none → n = 0 ∧ c = 0
theorem Txt.but {w w' : World} {rb : Nat} {a : Option Addr} {n c : Nat} {ts : List Int} (h : Txt w rb a n c ts) (b : But (some rb) w.heap.size w w') : Txt w' rb a n c ts := ⟨h.seqb.but b, h.le, h.none⟩
theorem Txt.below {w w' : World} {rb : Nat} {a : Option Addr} {n c : Nat} {ts : List Int} (h : Txt w rb a n c ts) (b : Below w.heap.size w w') : Txt w' rb a n c ts := h.but (But.of b)
theorem Txt.seq {w : World} {rb : Nat} {a : Option Addr} {n c : Nat} {ts : List Int} (h : Txt w rb a n c ts) : SeqAt .i32 w a n ts := h.seqb.seq
theorem own_txt {w : World} {B n rb : Nat} {v : Value} {zs : List Int} (h : w.ownsRow B 21 1 v n (ints zs)) (hrb : rb < B) : ∃ a c, v = .slice a n c ∧ Txt w rb a n c zs := by
  have hl := h.1
  rw [ints_len] at hl
  rcases h.2 with ⟨rfl, rfl⟩ | ⟨g, cap, cur, rfl, hB, hg, hc, _⟩
  · exact ⟨none, 0, rfl, ⟨by simpa using hl, .inl rfl⟩, Nat.le_refl _, fun _ => ⟨rfl, rfl⟩⟩
  · refine ⟨_, cap, rfl, ⟨by omega, .inr ⟨g, 0, rfl, ⟨cur, hg⟩, fun e => by cases e; omega, fun j z hz => ?_⟩⟩, hc, fun h => by cases h⟩
    have := h.cells (g := g) rfl j (.int .i32 z) (by simp [ints, hz])
    rwa [Addr.add_lit] at this

/-- What an edit leaves of the rope, and what it returns. -/
def EditTo (w : World) (rb : Nat) (T : List Int) (code : Int) (e : Ending) (w' : World) : Prop :=
  ∃ ns, e = .returned (.int .i64 code) ∧ RopeAt w' rb ns ∧ text ns = T ∧ Below rb w w' ∧ But (some rb) w.heap.size w w'
/-- What the reference's edit returns. -/
def TextTo (w : World) (rb : Nat) (T : List Int) (code : Int) (e : Ending) (w' : World) : Prop :=
  ∃ a n c, e = .returned (.tuple #[.slice a n c, .int .i64 code]) ∧ Txt w' rb a n c T ∧ Below w.heap.size w w'

theorem edit_same {w w' : World} {rb : Nat} {ns : List Nd} {code : Int} {e : Ending} (hR : RopeAt w rb ns) (he : e = .returned (.int .i64 code)) (hb : Below w.heap.size w w') : EditTo w rb (text ns) code e w' :=
  ⟨ns, he, hR.below hb, rfl, hb.mono (Nat.le_of_lt hR.lt), But.of hb⟩
theorem edit_done {w w' : World} {rb : Nat} {T : List Int} {e : Ending} (h : Edited w rb T e w') : EditTo w rb T 0 e w' := h
theorem text_got {w w' : World} {rb : Nat} {T : List Int} {e : Ending} (hrb : rb < w.heap.size) (h : Got w T e w') : TextTo w rb T 0 e w' := by
  obtain ⟨v, rfl, own, hb⟩ := h
  obtain ⟨a, c, rfl, ht⟩ := own_txt own hrb
  exact ⟨a, _, c, rfl, ht, hb⟩

/-- Insert: the rope and the reference come to the same text and the same number. -/
theorem insert_both (rb : Nat) (ns : List Nd) (ts ys : List Int) (a c : Option Addr) (n cap m cap' : Nat) (x : Int) (h5 : text ns = ts) (hl : ts.length ≤ 2000) (hnc : c = none → m = 0 ∧ cap' = 0) (hm : m ≤ 2500) (hyl : ys.length = m) :
    ∃ T code, (∀ w, RopeAt w rb ns → SeqAt .i32 w c m ys → Calls Try.prog 10 #[.pointer (some ⟨rb, 0, none⟩), .int .i64 x, .slice c m cap'] w (EditTo w rb T code)) ∧
      (∀ w, rb < w.heap.size → Txt w rb a n cap ts → SeqAt .i32 w c m ys → Calls Try.prog 9 #[.slice a n cap, .int .i64 x, .slice c m cap'] w (TextTo w rb T code)) := by
  by_cases hx : 0 ≤ x ∧ x ≤ (ts.length : Int)
  · cases hv : ys.all Lib.validRune
    · refine ⟨ts, 1, fun w hR hy => ?_, fun w hrb ht hy => ?_⟩
      · rw [← h5]
        exact (insert_bad rb ns x c m cap' ys w hR (by rw [h5]; exact hx) (by omega) hy hv).mono fun e w' ⟨he, hb⟩ => edit_same hR he hb
      · exact (refInsert_no a n cap x c m cap' ys w (by omega) hy (.inr hv)).mono fun e w' ⟨he, hw⟩ => by subst hw; exact ⟨a, n, cap, he, ht, Below.refl _ _⟩
    · obtain ⟨p, rfl⟩ : ∃ p : Nat, x = p := ⟨x.toNat, by omega⟩
      by_cases hf : 2000 < ts.length + m
      · refine ⟨ts, 3, fun w hR hy => ?_, fun w hrb ht hy => ?_⟩
        · rw [← h5]
          exact (insert_full rb ns p c m cap' ys w hR (by rw [h5]; exact hx) (by omega) hy hv (by rw [h5]; exact hf)).mono fun e w' ⟨he, hb⟩ => edit_same hR he hb
        · have hn := ht.seqb.1
          exact (refInsert_full a n cap p c m cap' ys w (by omega) (by omega) (by omega) hy hv (by omega)).mono fun e w' ⟨he, hw⟩ => by subst hw; exact ⟨a, n, cap, he, ht, Below.refl _ _⟩
      · refine ⟨ts.take p ++ ys ++ ts.drop p, 0, fun w hR hy => ?_, fun w hrb ht hy => ?_⟩
        · rw [← h5]
          exact (insert_yes rb ns p c m cap' ys w hR (by rw [h5]; omega) hnc hy hv (by rw [h5]; omega)).mono fun e w' h => edit_done h
        · have hn := ht.seqb.1
          exact (refInsert_yes a n cap p c m cap' ts ys w (by omega) ht.le ht.seq ht.none hy hnc hv (by omega)).mono fun e w' h => text_got hrb h
  · refine ⟨ts, 1, fun w hR hy => ?_, fun w hrb ht hy => ?_⟩
    · rw [← h5]
      exact (insert_no rb ns x c m cap' w hR (by rw [h5]; exact hx)).mono fun e w' ⟨he, hb⟩ => edit_same hR he hb
    · have hn := ht.seqb.1
      exact (refInsert_no a n cap x c m cap' ys w (by omega) hy (.inl (by omega))).mono fun e w' ⟨he, hw⟩ => by subst hw; exact ⟨a, n, cap, he, ht, Below.refl _ _⟩

/-- Delete: the rope and the reference come to the same text and the same number. -/
theorem delete_both (rb : Nat) (ns : List Nd) (ts : List Int) (a : Option Addr) (n cap : Nat) (x y : Int) (h5 : text ns = ts) (hl : ts.length ≤ 2000) :
    ∃ T code, (∀ w, RopeAt w rb ns → Calls Try.prog 12 #[.pointer (some ⟨rb, 0, none⟩), .int .i64 x, .int .i64 y] w (EditTo w rb T code)) ∧
      (∀ w, rb < w.heap.size → Txt w rb a n cap ts → Calls Try.prog 11 #[.slice a n cap, .int .i64 x, .int .i64 y] w (TextTo w rb T code)) := by
  by_cases hx : 0 ≤ x ∧ x ≤ y ∧ y ≤ (ts.length : Int)
  · obtain ⟨p, rfl⟩ : ∃ p : Nat, x = p := ⟨x.toNat, by omega⟩
    obtain ⟨q, rfl⟩ : ∃ q : Nat, y = q := ⟨y.toNat, by omega⟩
    refine ⟨ts.take p ++ ts.drop q, 0, fun w hR => ?_, fun w hrb ht => ?_⟩
    · rw [← h5]
      exact (delete_yes rb ns p q w hR (by omega) (by rw [h5]; omega)).mono fun e w' h => edit_done h
    · have hn := ht.seqb.1
      exact (refDelete_yes a n cap p q ts w (by omega) (by omega) ht.le ht.seq ht.none (by omega)).mono fun e w' h => text_got hrb h
  · refine ⟨ts, 1, fun w hR => ?_, fun w hrb ht => ?_⟩
    · rw [← h5]
      exact (delete_no rb ns x y w hR (by rw [h5]; exact hx)).mono fun e w' ⟨he, hb⟩ => edit_same hR he hb
    · have hn := ht.seqb.1
      exact (refDelete_no a n cap x y w (by omega)).mono fun e w' ⟨he, hw⟩ => by subst hw; exact ⟨a, n, cap, he, ht, Below.refl _ _⟩

/-- A deed that came in. -/
structure Dd where
  what : Int
  x : Int
  y : Int
  a : Option Addr
  n : Nat
  c : Nat
  zs : List Int

structure DdAt (w : World) (d : Dd) : Prop where
  seq : SeqAt .i32 w d.a d.n d.zs
  none : d.a = none → d.n = 0 ∧ d.c = 0
/-- Deeds in memory. -/
structure Dds (w : World) (a : Option Addr) (n : Nat) (ds : List Dd) : Prop where
  len : ds.length = n
  row : n = 0 ∨ ∃ b off, a = some ⟨b, off, none⟩ ∧ b < w.heap.size ∧ ∀ k d, ds[k]? = some d → w.cell? ⟨b, off + k * 4, none⟩ = some (.int .i64 d.what) ∧ w.cell? ⟨b, off + k * 4 + 1, none⟩ = some (.int .i64 d.x) ∧ w.cell? ⟨b, off + k * 4 + 2, none⟩ = some (.int .i64 d.y) ∧ w.cell? ⟨b, off + k * 4 + 3, none⟩ = some (.slice d.a d.n d.c)
  each : ∀ d ∈ ds, DdAt w d
theorem DdAt.below {w w' : World} {d : Dd} (h : DdAt w d) (b : Below w.heap.size w w') : DdAt w' d := ⟨h.seq.below b, h.none⟩
theorem Dds.below {w w' : World} {a : Option Addr} {n : Nat} {ds : List Dd} (h : Dds w a n ds) (hb : Below w.heap.size w w') : Dds w' a n ds := by
  refine ⟨h.len, ?_, fun d hd => (h.each d hd).below hb⟩
  rcases h.row with h0 | ⟨b, off, rfl, hlt, hc⟩
  · exact .inl h0
  · refine .inr ⟨b, off, rfl, Nat.lt_of_lt_of_le hlt hb.size, fun k d hd => ?_⟩
    obtain ⟨c0, c1, c2, c3⟩ := hc k d hd
    exact ⟨(hb.cell (by exact hlt)).trans c0, (hb.cell (by exact hlt)).trans c1, (hb.cell (by exact hlt)).trans c2, (hb.cell (by exact hlt)).trans c3⟩

def small (d : Dd) : Bool := decide (d.n ≤ 2500)
def fewB (ds : List Dd) : Bool := ds.all small && decide (ds.length ≤ 40)

theorem few (a : Option Addr) (n cap : Nat) (ds : List Dd) (w : World) (hn : n ≤ maxLen) (h : Dds w a n ds) :
    Calls Try.prog 5 #[.slice a n cap] w fun e w' => e = .returned (.bool (fewB ds)) ∧ w = w' := by
  unfold maxLen at hn
  have H := Lib.hid h
  clear h
  go_enter Try.func5, Try.ntmps5
  go_wp2
  go_loop [3] (fun i => ∃ k : Nat, k ≤ n ∧ i = .int .i64 k ∧ (ds.take k).all small = true) (fun i => n - (RowKit.intOf i).toNat)
  case atStart => exact ⟨0, Nat.zero_le _, rfl, rfl⟩
  case round =>
    obtain ⟨k, hk, rfl, hall⟩ := hrel
    have HA := Lib.hid hall
    clear hall
    by_cases hlt : k < n
    · obtain ⟨d, hd⟩ : ∃ d, ds[k]? = some d := ⟨ds[k]'(by have := H.out.len; omega), by simp⟩
      rcases H.out.row with h0 | ⟨b, off, rfl, hb, hc⟩
      · omega
      have c3 := (hc k d hd).2.2.2
      have hltz : (k : Int) < (n : Int) := by omega
      have hk0 : (0 : Int) ≤ (k : Int) := by omega
      have HD := Lib.hid hd
      clear hd hc
      by_cases hs : d.n ≤ 2500
      · have hs' : ¬ (2500 : Int) < (d.n : Int) := by omega
        have HS := Lib.hid (show small d = true from decide_eq_true hs)
        go_wp2
        go_round
        case rel =>
          refine ⟨k + 1, by omega, by go_num, ?_⟩
          rw [List.take_add_one, HD.out, List.all_append, HA.out]
          simp [HS.out]
        case measure => simp [RowKit.intOf]; omega
      · have hs' : (2500 : Int) < (d.n : Int) := by omega
        have E := Lib.hid (show fewB ds = false by
          unfold fewB
          rw [List.all_eq_false.2 ⟨d, List.mem_of_getElem? HD.out, by simp [small]; omega⟩]
          rfl)
        go_wp2
        go_ret
        exact ⟨ret_bool E.out.symm, rfl⟩
    · have hk' : k = n := by omega
      have hltz : ¬ (k : Int) < (n : Int) := by omega
      have HT := Lib.hid (show ds.all small = true by
        have h := HA.out
        rwa [List.take_of_length_le (by have := H.out.len; omega)] at h)
      have HL := Lib.hid H.out.len
      clear hk'
      by_cases h40 : n ≤ 40
      · have h40' : (n : Int) ≤ 40 := by omega
        have E := Lib.hid (show fewB ds = true by unfold fewB; rw [HT.out, HL.out]; simp [h40])
        go_wp2
        go_ret
        exact ⟨ret_bool E.out.symm, rfl⟩
      · have h40' : ¬ (n : Int) ≤ 40 := by omega
        have E := Lib.hid (show fewB ds = false by unfold fewB; rw [HT.out, HL.out]; simp [h40])
        go_wp2
        go_ret
        exact ⟨ret_bool E.out.symm, rfl⟩
end Go.Proofs.Ytlijkejadjkbcaa
