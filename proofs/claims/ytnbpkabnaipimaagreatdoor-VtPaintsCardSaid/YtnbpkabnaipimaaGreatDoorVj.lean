/- The contract of Write. Conditions: a terminal and bytes in memory; the listed variables hold what their initialisers lay. -/
import Derived.Test.YtnbpkabnaipimaaGreatDoorVm
import Derived.Test.YtnbpkabnaipimaaGreatDoorVs
import Derived.Test.YtnbpkabnaipimaaGreatDoorVn
import Derived.WideLaws
import Derived.Test.YtnbpkabnaipimaaGreatDoorVx
import Derived.Test.YtnbpkabnaipimaaGreatDoorVd
namespace Go.Proofs.YtnbpkabnaipimaaGreatDoor
open Go Go.RowKit Go.Lib

set_option maxRecDepth 20000
def fH : Value := .func (.func 70) #[] #[]
def fM : Value := .func (.func 71) #[] #[]
def fJ : Value := .func (.func 72) #[] #[]
def efs1 : Array MapEntry := #[⟨.int .u8 72, fH, 0⟩]
def efs2 : Array MapEntry := #[⟨.int .u8 72, fH, 0⟩, ⟨.int .u8 109, fM, 1⟩]
def efs : Array MapEntry := #[⟨.int .u8 72, fH, 0⟩, ⟨.int .u8 109, fM, 1⟩, ⟨.int .u8 74, fJ, 2⟩]
theorem setObj_map (w : World) (b : Nat) (es es' : Array MapEntry) (c c' : Nat) (h : w.heap[b]? = some (.map es c)) : (setObj b (.map es' c')).run Tryz.prog w = .ok () { w with heap := w.heap.setIfInBounds b (.map es' c') } := by
  simp [setObj, Sem.run, h]
theorem ins (w : World) (b : Nat) (es : Array MapEntry) (cl : Nat) (k : Int) (f : Value) (h : w.heap[b]? = some (.map es cl)) (hn : (Instr.findKey 5 (.int .u8 k) es.toList).run Tryz.prog w = .ok none w) : (Instr.mapUpdate 104 (.map (some b)) (.int .u8 k) f).run Tryz.prog w = .ok () { w with heap := w.heap.setIfInBounds b (.map (es.push ⟨.int .u8 k, f, cl⟩) (cl + 1)) } := by
  simp only [Instr.mapUpdate]
  simp
  rw [run_getObj_map w b es cl h]
  simp
  rw [show (Instr.checkKey false 10000 5 (Value.int IntKind.u8 k)).run Tryz.prog w = .ok () w from rfl]
  simp [Result.andThen]
  rw [hn]
  exact setObj_map w b es _ cl _ h
theorem push_turn (h : Array Obj) (o o' : Obj) : (h.push o).setIfInBounds h.size o' = h.push o' := by
  apply Array.ext_getElem?
  intro i
  rw [Array.getElem?_setIfInBounds, Array.getElem?_push, Array.getElem?_push]
  by_cases e : i = h.size
  · simp [e]
  · have : ¬ h.size = i := fun h' => e h'.symm
    simp [e, this]
theorem alloc_turn (w : World) (o o' : Obj) : { (w.alloc o) with heap := (w.alloc o).heap.setIfInBounds w.heap.size o' } = w.alloc o' := by
  have e : (w.alloc o).heap.setIfInBounds w.heap.size o' = (w.alloc o').heap := push_turn w.heap o o'
  rw [e]
  rfl
theorem insA (w : World) (es : Array MapEntry) (cl : Nat) (k : Int) (f : Value) (hn : ∀ w' : World, (Instr.findKey 5 (.int .u8 k) es.toList).run Tryz.prog w' = .ok none w') : (Instr.mapUpdate 104 (.map (some w.heap.size)) (.int .u8 k) f).run Tryz.prog (w.alloc (.map es cl)) = .ok () (w.alloc (.map (es.push ⟨.int .u8 k, f, cl⟩) (cl + 1))) := by
  rw [ins (w.alloc (.map es cl)) w.heap.size es cl k f (heap_alloc_new w _) (hn _), alloc_turn]

theorem effectsAt (w : World) : Calls Tryz.prog 63 #[] w fun e w' => e = .returned (.map (some w.heap.size)) ∧ w'.heap[w.heap.size]? = some (.map efs 3) ∧ Below w.heap.size w w' := by
  have h0 : (Instr.makeMap 104 none).run Tryz.prog w = .ok (.map (some w.heap.size)) (w.alloc (.map #[] 0)) := rfl
  have h1 : (Instr.mapUpdate 104 (.map (some w.heap.size)) (.int .u8 72) (.func (.func 70) #[] #[])).run Tryz.prog (w.alloc (.map #[] 0)) = .ok () (w.alloc (.map #[⟨.int .u8 72, .func (.func 70) #[] #[], 0⟩] 1)) := insA w #[] 0 72 fH (fun _ => rfl)
  have h2 : (Instr.mapUpdate 104 (.map (some w.heap.size)) (.int .u8 109) (.func (.func 71) #[] #[])).run Tryz.prog (w.alloc (.map #[⟨.int .u8 72, .func (.func 70) #[] #[], 0⟩] 1)) = .ok () (w.alloc (.map #[⟨.int .u8 72, .func (.func 70) #[] #[], 0⟩, ⟨.int .u8 109, .func (.func 71) #[] #[], 1⟩] 2)) := insA w efs1 1 109 fM (fun _ => rfl)
  have h3 : (Instr.mapUpdate 104 (.map (some w.heap.size)) (.int .u8 74) (.func (.func 72) #[] #[])).run Tryz.prog (w.alloc (.map #[⟨.int .u8 72, .func (.func 70) #[] #[], 0⟩, ⟨.int .u8 109, .func (.func 71) #[] #[], 1⟩] 2)) = .ok () (w.alloc (.map efs 3)) := insA w efs2 2 74 fJ (fun _ => rfl)
  go_enter Tryz.func63, Tryz.ntmps63
  go_wp2
  go_ret
  exact ⟨rfl, heap_alloc_new w _, (Below.refl _ _).alloc (Nat.le_refl _) _⟩
end Go.Proofs.YtnbpkabnaipimaaGreatDoor
namespace Go.Proofs.YtnbpkabnaipimaaGreatDoor
open Go Go.RowKit Go.Lib

/-- A body's pieces are digits, and worth its numbers. -/
def BodyOk (b : List Int) (ns : List Int) : Prop := (split (by8 b) [59]).map Lib.atoi = ns.map some ∧ ∀ d ∈ split (by8 b) [59], Digs d
instance (d : List UInt8) : Decidable (Digs d) := by unfold Digs; exact inferInstance
instance (b ns : List Int) : Decidable (BodyOk b ns) := by unfold BodyOk; exact inferInstance
theorem body_goto : ∀ k : Fin 60, BodyOk (digits ((k.val : Int) + 1) ++ [59, 49]) [(k.val : Int) + 1, 1] := by decide +kernel
theorem body_style : ∀ k : Fin 8, BodyOk ([48] ++ (if (k.val : Int) % 2 = 1 then [59, 55] else []) ++ (if (k.val : Int) / 2 % 2 = 1 then [59, 52] else []) ++ (if (k.val : Int) / 4 = 1 then [59, 49] else [])) (numsT (.style (k.val : Int))) := by decide +kernel
theorem body_clear : BodyOk [50] [2] := by decide +kernel
theorem body_of {t : Tok} {b : List Int} {x : Int} (h : seqOf t = some (b, x)) (hg : ∀ r, t = .goto r → r < 60) (hs : ∀ s, t = .style s → 0 ≤ s ∧ s ≤ 7) : BodyOk b (numsT t) := by
  cases t with
  | goto r =>
    simp only [seqOf, Option.some.injEq, Prod.mk.injEq] at h
    obtain ⟨rfl, rfl⟩ := h
    exact body_goto ⟨r, hg r rfl⟩
  | style s =>
    simp only [seqOf, Option.some.injEq, Prod.mk.injEq] at h
    obtain ⟨rfl, rfl⟩ := h
    obtain ⟨h0, h7⟩ := hs s rfl
    obtain ⟨k, rfl⟩ := Int.eq_ofNat_of_zero_le h0
    exact body_style ⟨k, by omega⟩
  | clear =>
    simp only [seqOf, Option.some.injEq, Prod.mk.injEq] at h
    obtain ⟨rfl, rfl⟩ := h
    exact body_clear
  | rune c => cases h

set_option maxRecDepth 20000
theorem look72 (w : World) (b : Nat) (h : w.heap[b]? = some (.map efs 3)) : (Instr.lookup 104 (.map (some b)) (.int .u8 72) true).run Tryz.prog w = .ok (.tuple #[fH, .bool true]) w := by
  simp only [Instr.lookup]
  simp
  rw [run_getObj_map w b efs 3 h]
  rfl
theorem look109 (w : World) (b : Nat) (h : w.heap[b]? = some (.map efs 3)) : (Instr.lookup 104 (.map (some b)) (.int .u8 109) true).run Tryz.prog w = .ok (.tuple #[fM, .bool true]) w := by
  simp only [Instr.lookup]
  simp
  rw [run_getObj_map w b efs 3 h]
  rfl
theorem look74 (w : World) (b : Nat) (h : w.heap[b]? = some (.map efs 3)) : (Instr.lookup 104 (.map (some b)) (.int .u8 74) true).run Tryz.prog w = .ok (.tuple #[fJ, .bool true]) w := by
  simp only [Instr.lookup]
  simp
  rw [run_getObj_map w b efs 3 h]
  rfl

/-- A slice of numbers in new memory. -/
theorem IntsF.new {F : Nat → Prop} {w w' : World} {g : Nat} {l : List Int} (hF : ∀ k, F k → k < w.heap.size) (hg : w.heap.size ≤ g) (hg2 : g < w'.heap.size) (hc : ∀ j z, l[j]? = some z → w'.cell? ⟨g, j, none⟩ = some (.int .i64 z)) : IntsF F w' g 0 l :=
  ⟨hg2, fun h => by have := hF _ h; omega, fun j z hz => by rw [Nat.zero_add]; exact hc j z hz⟩

set_option maxHeartbeats 4000000 in
set_option maxRecDepth 20000 in
theorem endGoto (p : Nat) (F : Nat → Prop) (r c : Nat) (s : Scr) (wt : List Int) (B k b off cap : Nat) (l : List UInt8) (w : World) (hW : Wd w) (h : Trm w p F r c s wt) (hFB : ∀ j, F j → B ≤ j) (hBw : B ≤ w.heap.size) (hk : k < r) (hl : l.length ≤ 12) (hl0 : l.length ≠ 0) (hcap : l.length ≤ cap) (hc63 : cap ≤ 9223372036854775807) (hb : b < w.heap.size) (hc : ∀ j, j < l.length → w.cell? ⟨b, off + j, none⟩ = some (.int .u8 (bAt l j)))
    (hns : (split l [59]).map Lib.atoi = [(k : Int) + 1, 1].map some) (hdig : ∀ d ∈ split l [59], Digs d) :
    Calls Tryz.prog 55 #[.pointer (some ⟨p, 0, none⟩), .slice (some ⟨b, off, none⟩) l.length cap, .int .u8 72] w fun e w' => e = .returned (.tuple #[]) ∧ Turned p F r c ⟨s.g, k, 0, s.st⟩ wt B w w' := by
  have EF := Lib.hid (effectsAt w)
  have HN := Lib.hid (fun (w1 : World) (hb1 : Below w.heap.size w w1) => numbersAt l b off cap [(k : Int) + 1, 1] w1 hl hl0 hcap hc63 (hW.below hb1) (Nat.lt_of_lt_of_le hb hb1.size) (fun j hj => (hb1.cell (by exact hb)).trans (hc j hj)) hns hdig)
  have HP := Lib.hid (fun (w1 : World) (hb1 : Below w.heap.size w w1) (g cap : Nat) (hI : IntsF F w1 g 0 [(k : Int) + 1, 1]) => placeT p F r c s wt B k g 0 cap w1 (h.below hb1) hFB hk hI)
  have HF := Lib.hid h.lt
  clear hW h hc hns hdig
  go_enter Tryz.func55, Tryz.ntmps55
  go_wp2_with fail
  (with_reducible refine EF.out.mono ?_)
  rintro e w1 ⟨rfl, hm, hb1⟩
  have hk1 := look72 w1 _ hm
  unfold fH at hk1
  have B1 := Lib.hid hb1
  clear hm hb1
  go_wp2_with fail
  (with_reducible refine (HN.out _ B1.out).mono ?_)
  rintro e w2 ⟨g, kk, rfl, hg1, hg2, hgc, hb2⟩
  rw [show [(k : Int) + 1, 1].length = 2 from rfl]
  have B2 := Lib.hid (B1.out.trans (hb2.mono B1.out.size))
  have HI := Lib.hid (IntsF.new (fun k hk => Nat.lt_of_lt_of_le (HF.out k hk) B1.out.size) hg1 hg2 hgc)
  clear hb2 hg1 hg2 hgc hk1
  go_wp2_with fail
  (with_reducible refine (HP.out _ B2.out g kk HI.out).mono ?_)
  rintro e w3 ⟨rfl, ht⟩
  have HT := Lib.hid (Turned.trans (fun _ h => .inl h) (Only.of B2.out hBw) ht)
  clear ht HI
  go_wp2
  go_end0
  exact ⟨rfl, HT.out⟩
set_option maxHeartbeats 4000000 in
set_option maxRecDepth 20000 in
theorem endStyle (p : Nat) (F : Nat → Prop) (r c : Nat) (s : Scr) (wt : List Int) (B b off cap : Nat) (ns : List Int) (l : List UInt8) (w : World) (hW : Wd w) (h : Trm w p F r c s wt) (hFB : ∀ j, F j → B ≤ j) (hBw : B ≤ w.heap.size) (hn1 : 1 ≤ ns.length) (hn2 : ns.length ≤ 10) (hin : ∀ x ∈ ns, x = 0 ∨ x = 7 ∨ x = 4 ∨ x = 1) (hl : l.length ≤ 12) (hl0 : l.length ≠ 0) (hcap : l.length ≤ cap) (hc63 : cap ≤ 9223372036854775807) (hb : b < w.heap.size) (hc : ∀ j, j < l.length → w.cell? ⟨b, off + j, none⟩ = some (.int .u8 (bAt l j)))
    (hns : (split l [59]).map Lib.atoi = ns.map some) (hdig : ∀ d ∈ split l [59], Digs d) :
    Calls Tryz.prog 55 #[.pointer (some ⟨p, 0, none⟩), .slice (some ⟨b, off, none⟩) l.length cap, .int .u8 109] w fun e w' => e = .returned (.tuple #[]) ∧ Turned p F r c ⟨s.g, s.row, s.col, ns.foldl styleN s.st⟩ wt B w w' := by
  have EF := Lib.hid (effectsAt w)
  have HN := Lib.hid (fun (w1 : World) (hb1 : Below w.heap.size w w1) => numbersAt l b off cap ns w1 hl hl0 hcap hc63 (hW.below hb1) (Nat.lt_of_lt_of_le hb hb1.size) (fun j hj => (hb1.cell (by exact hb)).trans (hc j hj)) hns hdig)
  have HP := Lib.hid (fun (w1 : World) (hb1 : Below w.heap.size w w1) (g cap : Nat) (hI : IntsF F w1 g 0 ns) => restyleT p F r c s wt B g 0 ns.length cap ns w1 (hW.below hb1) (h.below hb1) hFB rfl hn1 hn2 hin hI)
  have HF := Lib.hid h.lt
  clear hW h hc hns hdig
  go_enter Tryz.func55, Tryz.ntmps55
  go_wp2_with fail
  (with_reducible refine EF.out.mono ?_)
  rintro e w1 ⟨rfl, hm, hb1⟩
  have hk1 := look109 w1 _ hm
  unfold fM at hk1
  have B1 := Lib.hid hb1
  clear hm hb1
  go_wp2_with fail
  (with_reducible refine (HN.out _ B1.out).mono ?_)
  rintro e w2 ⟨g, kk, rfl, hg1, hg2, hgc, hb2⟩
  have B2 := Lib.hid (B1.out.trans (hb2.mono B1.out.size))
  have HI := Lib.hid (IntsF.new (fun k hk => Nat.lt_of_lt_of_le (HF.out k hk) B1.out.size) hg1 hg2 hgc)
  clear hb2 hg1 hg2 hgc hk1
  go_wp2_with fail
  (with_reducible refine (HP.out _ B2.out g kk HI.out).mono ?_)
  rintro e w3 ⟨rfl, ht⟩
  have HT := Lib.hid (Turned.trans (fun _ h => .inl h) (Only.of B2.out hBw) ht)
  clear ht HI
  go_wp2
  go_end0
  exact ⟨rfl, HT.out⟩
set_option maxHeartbeats 4000000 in
set_option maxRecDepth 20000 in
theorem endClear (p : Nat) (F : Nat → Prop) (r c : Nat) (s : Scr) (wt : List Int) (B b off cap : Nat) (l : List UInt8) (w : World) (hW : Wd w) (h : Trm w p F r c s wt) (hFB : ∀ j, F j → B ≤ j) (hBw : B ≤ w.heap.size) (hl : l.length ≤ 12) (hl0 : l.length ≠ 0) (hcap : l.length ≤ cap) (hc63 : cap ≤ 9223372036854775807) (hb : b < w.heap.size) (hc : ∀ j, j < l.length → w.cell? ⟨b, off + j, none⟩ = some (.int .u8 (bAt l j)))
    (hns : (split l [59]).map Lib.atoi = [(2 : Int)].map some) (hdig : ∀ d ∈ split l [59], Digs d) :
    Calls Tryz.prog 55 #[.pointer (some ⟨p, 0, none⟩), .slice (some ⟨b, off, none⟩) l.length cap, .int .u8 74] w fun e w' => e = .returned (.tuple #[]) ∧ Turned p F r c ⟨clearG s.g, s.row, s.col, s.st⟩ wt B w w' := by
  have EF := Lib.hid (effectsAt w)
  have HN := Lib.hid (fun (w1 : World) (hb1 : Below w.heap.size w w1) => numbersAt l b off cap [2] w1 hl hl0 hcap hc63 (hW.below hb1) (Nat.lt_of_lt_of_le hb hb1.size) (fun j hj => (hb1.cell (by exact hb)).trans (hc j hj)) hns hdig)
  have HP := Lib.hid (fun (w1 : World) (hb1 : Below w.heap.size w w1) (g cap : Nat) (hI : IntsF F w1 g 0 [2]) => wipeT p F r c s wt B g 0 cap w1 (h.below hb1) hFB hI)
  have HF := Lib.hid h.lt
  clear hW h hc hns hdig
  go_enter Tryz.func55, Tryz.ntmps55
  go_wp2_with fail
  (with_reducible refine EF.out.mono ?_)
  rintro e w1 ⟨rfl, hm, hb1⟩
  have hk1 := look74 w1 _ hm
  unfold fJ at hk1
  have B1 := Lib.hid hb1
  clear hm hb1
  go_wp2_with fail
  (with_reducible refine (HN.out _ B1.out).mono ?_)
  rintro e w2 ⟨g, kk, rfl, hg1, hg2, hgc, hb2⟩
  rw [show [(2 : Int)].length = 1 from rfl]
  have B2 := Lib.hid (B1.out.trans (hb2.mono B1.out.size))
  have HI := Lib.hid (IntsF.new (fun k hk => Nat.lt_of_lt_of_le (HF.out k hk) B1.out.size) hg1 hg2 hgc)
  clear hb2 hg1 hg2 hgc hk1
  go_wp2_with fail
  (with_reducible refine (HP.out _ B2.out g kk HI.out).mono ?_)
  rintro e w3 ⟨rfl, ht⟩
  have HT := Lib.hid (Turned.trans (fun _ h => .inl h) (Only.of B2.out hBw) ht)
  clear ht HI
  go_wp2
  go_end0
  exact ⟨rfl, HT.out⟩
theorem nums_in {s : Int} (h : 0 ≤ s ∧ s ≤ 7) : (∀ x ∈ numsT (.style s), x = 0 ∨ x = 7 ∨ x = 4 ∨ x = 1) ∧ 1 ≤ (numsT (.style s)).length ∧ (numsT (.style s)).length ≤ 10 := by
  have key : ∀ k : Fin 8, (∀ x ∈ numsT (.style (k.val : Int)), x = 0 ∨ x = 7 ∨ x = 4 ∨ x = 1) ∧ 1 ≤ (numsT (.style (k.val : Int))).length ∧ (numsT (.style (k.val : Int))).length ≤ 10 := by decide +kernel
  obtain ⟨k, rfl⟩ := Int.eq_ofNat_of_zero_le h.1
  exact key ⟨k, by omega⟩
/-- end, of a token that does something. -/
theorem endT (p : Nat) (F : Nat → Prop) (r c : Nat) (s s' : Scr) (wt : List Int) (B b off cap n : Nat) (t : Tok) (body : List Int) (x : Int) (w : World) (hW : Wd w) (h : Trm w p F r c s wt) (hFB : ∀ j, F j → B ≤ j) (hBw : B ≤ w.heap.size) (hD : Does wd okR s t s') (ht : seqOf t = some (body, x)) (hn : n = body.length) (hcap : n ≤ cap) (hc63 : cap ≤ 9223372036854775807) (hb : b < w.heap.size) (hc : ∀ j, j < n → w.cell? ⟨b, off + j, none⟩ = some (.int .u8 (bAt (by8 body) j))) :
    Calls Tryz.prog 55 #[.pointer (some ⟨p, 0, none⟩), .slice (some ⟨b, off, none⟩) n cap, .int .u8 x] w fun e w' => e = .returned (.tuple #[]) ∧ Turned p F r c s' wt B w w' := by
  have hlen : n = (by8 body).length := by rw [by8_len, hn]
  subst hn
  rw [hlen] at hcap hc ⊢
  cases hD with
  | goto k hk =>
    have hk' : k < r := by rw [← h.inv.rows]; exact hk
    have hf : Fits (.goto k) := by have := h.r60; show k ≤ 98; omega
    obtain ⟨h1, h2, _⟩ := seq_body ht hf
    obtain ⟨hb1, hb2⟩ := body_of ht (fun q e => by cases e; have := h.r60; omega) (fun _ e => by cases e)
    simp only [seqOf, Option.some.injEq, Prod.mk.injEq] at ht
    obtain ⟨rfl, rfl⟩ := ht
    exact endGoto p F r c s wt B k b off cap _ w hW h hFB hBw hk' (by omega) (by simp [by8_len]) hcap hc63 hb hc hb1 hb2
  | style k h0 h7 =>
    obtain ⟨h1, h2, _⟩ := seq_body ht (show Fits (.style k) from ⟨h0, h7⟩)
    obtain ⟨hb1, hb2⟩ := body_of ht (fun q e => by cases e) (fun _ e => by cases e; exact ⟨h0, h7⟩)
    obtain ⟨n1, n2, n3⟩ := nums_in ⟨h0, h7⟩
    simp only [seqOf, Option.some.injEq, Prod.mk.injEq] at ht
    obtain ⟨rfl, rfl⟩ := ht
    have := endStyle p F r c s wt B b off cap (numsT (.style k)) _ w hW h hFB hBw n2 n3 n1 (by omega) (by simp [by8_len]) hcap hc63 hb hc hb1 hb2
    rw [nums_style ⟨h0, h7⟩] at this
    exact this
  | clear =>
    obtain ⟨h1, h2, _⟩ := seq_body ht (show Fits .clear from trivial)
    obtain ⟨hb1, hb2⟩ := body_of ht (fun q e => by cases e) (fun _ e => by cases e)
    simp only [seqOf, Option.some.injEq, Prod.mk.injEq] at ht
    obtain ⟨rfl, rfl⟩ := ht
    exact endClear p F r c s wt B b off cap _ w hW h hFB hBw (by omega) (by simp [by8_len]) hcap hc63 hb hc hb1 hb2
  | one1 => cases ht
  | one2 => cases ht
  | two11 => cases ht
  | two12 => cases ht
  | two2 => cases ht
end Go.Proofs.YtnbpkabnaipimaaGreatDoor
namespace Go.Proofs.YtnbpkabnaipimaaGreatDoor
open Go Go.RowKit Go.Lib

/-- Bytes of a list lie in a block. -/
structure Lies (w : World) (b off : Nat) (L : List Int) : Prop where
  lt : b < w.heap.size
  at_ : ∀ j z, L[j]? = some z → w.cell? ⟨b, off + j, none⟩ = some (.int .u8 z)
theorem Lies.block {w w' : World} {b off : Nat} {L : List Int} (h : Lies w b off L) (hs : w.heap.size ≤ w'.heap.size) (hb : w'.heap[b]? = w.heap[b]?) : Lies w' b off L :=
  ⟨Nat.lt_of_lt_of_le h.lt hs, fun j z hz => (World.cell?_of_block (w := w) hb).trans (h.at_ j z hz)⟩
theorem Lies.drop {w : World} {b off : Nat} {L : List Int} (h : Lies w b off L) (k : Nat) : Lies w b (off + k) (L.drop k) :=
  ⟨h.lt, fun j z hz => by rw [Nat.add_assoc]; exact h.at_ _ z (by rw [List.getElem?_drop] at hz; exact hz)⟩
theorem Trm.refl_only {p : Nat} {F : Nat → Prop} {r c : Nat} {s : Scr} {wt : List Int} {B : Nat} {w w' : World} (h : Turned p F r c s wt B w.drew w') (hB : B ≤ w.heap.size) : Turned p F r c s wt B w w' :=
  Turned.trans (fun _ h => .inl h) (Only.of (Below.refl _ _).drew hB) h
theorem bAt_int {L : List Int} {j : Nat} {z : Int} (hz : L[j]? = some z) (h : 0 ≤ z ∧ z ≤ 255) : (bAt (by8 L) j : Int) = z := by
  unfold bAt by8
  rw [List.getD_eq_getElem?_getD, List.getElem?_map, hz]
  simp
  omega

set_option maxHeartbeats 4000000 in
set_option maxRecDepth 20000 in
theorem seqHalf (p b off n cap m : Nat) (L : List Int) (w : World) (hL : Lies w b off L) (hn : n = L.length) (hn2 : n = 2 + m) (hm : m ≤ 7) (hcap : n ≤ cap) (hbody : ∀ k, k < m → ∃ y, L[2 + k]? = some y ∧ 48 ≤ y ∧ y ≤ 59) :
    Calls Tryz.prog 48 #[.pointer (some ⟨p, 0, none⟩), .slice (some ⟨b, off, none⟩) n cap] w fun e w' => e = .returned (.int .i64 0) ∧ Below w.heap.size w w' := by
  have hn3 : n ≤ 2 + m := by omega
  have hn4 : 2 + m ≤ n := by omega
  have HL := Lib.hid hL
  have HB := Lib.hid hbody
  clear hL hbody hn hn2
  go_enter Tryz.func48, Tryz.ntmps48
  go_wp2
  go_loopw [5] (fun i wr => ∃ j : Nat, 2 ≤ j ∧ j ≤ n ∧ i = .int .i64 j ∧ wr = w) (fun i _ => n - (RowKit.intOf i).toNat)
  case atStart => exact ⟨2, Nat.le_refl _, by omega, rfl, rfl⟩
  case round =>
    obtain ⟨j, hj2, hj, rfl, hwr⟩ := hrel
    have hwr' := hwr.symm
    clear hwr
    subst hwr'
    by_cases hlt : j < n
    · have hlt' : (j : Int) < (n : Int) := by omega
      have hlt32 : (j : Int) < 32 := by omega
      obtain ⟨y, hy, hy1, hy2⟩ := HB.out (j - 2) (by omega)
      rw [show 2 + (j - 2) = j by omega] at hy
      have cj := HL.out.at_ j y hy
      have hy32 : (32 : Int) ≤ y := by omega
      have hy63 : y ≤ (63 : Int) := by omega
      clear hy
      go_wp2
      go_roundw
      case rel => exact ⟨j + 1, by omega, by omega, by go_num, by first | rfl | trivial⟩
      case measure => (simp [RowKit.intOf]; try omega)
    · obtain rfl : j = n := by omega
      go_wp2
      go_ret
      exact ⟨rfl, Below.refl _ _⟩
set_option maxHeartbeats 4000000 in
set_option maxRecDepth 20000 in
theorem seqT (p : Nat) (F : Nat → Prop) (r c : Nat) (s s' : Scr) (wt : List Int) (B b off n cap m : Nat) (t : Tok) (body q L : List Int) (x : Int) (w : World) (hW : Wd w) (h : Trm w p F r c s wt) (hFB : ∀ j, F j → B ≤ j) (hBw : B ≤ w.heap.size) (hD : Does wd okR s t s') (ht : seqOf t = some (body, x)) (hbm : m = body.length) (hLe : L = 27 :: 91 :: (body ++ x :: q))
    (hL : Lies w b off L) (hn : n = L.length) (hcap63 : cap ≤ 9223372036854775807) (hx : 64 ≤ x ∧ x ≤ 126) (hm : m ≤ 7) (hcap : n ≤ cap) (hbody : ∀ k, k < m → ∃ y, L[2 + k]? = some y ∧ 48 ≤ y ∧ y ≤ 59) :
    Calls Tryz.prog 48 #[.pointer (some ⟨p, 0, none⟩), .slice (some ⟨b, off, none⟩) n cap] w fun e w' => e = .returned (.int .i64 (m + 3 : Nat)) ∧ Turned p F r c s' wt B w w' := by
  have HL := Lib.hid hL
  have HB := Lib.hid hbody
  have hn3 : m + 3 ≤ n := by rw [hn, hLe, hbm]; simp
  have cx : w.cell? ⟨b, off + (2 + m), none⟩ = some (.int .u8 x) := hL.at_ _ x (by rw [hLe, hbm]; simp [Nat.add_comm 2])
  have hx63 : ¬ x ≤ (63 : Int) := by omega
  have hx32 : (32 : Int) ≤ x := by omega
  have hcap' : 2 ≤ cap := by omega
  have EN := Lib.hid (fun (w1 : World) (hb1 : Below w.heap.size w w1) => endT p F r c s s' wt B b (off + 2) (cap - 2) m t body x w1 (hW.below hb1) (h.below hb1) hFB (Nat.le_trans hBw hb1.size) hD ht hbm (by omega) (by omega) (Nat.lt_of_lt_of_le hL.lt hb1.size) (fun j hj => by
    obtain ⟨y, hy, hy1, hy2⟩ := hbody j hj
    have hb' : body[j]? = some y := by
      rw [hLe, Nat.add_comm 2 j] at hy
      rw [List.getElem?_cons_succ, List.getElem?_cons_succ, List.getElem?_append_left (by omega)] at hy
      exact hy
    rw [Nat.add_assoc, hb1.cell (by exact hL.lt), hL.at_ _ y hy, bAt_int hb' (by omega)]))
  clear hL hbody hW h hLe hx hn hbm hD ht hFB
  go_enter Tryz.func48, Tryz.ntmps48
  go_wp2
  go_loopw [5] (fun i wr => ∃ j : Nat, 2 ≤ j ∧ j ≤ 2 + m ∧ i = .int .i64 j ∧ wr = w) (fun i _ => n - (RowKit.intOf i).toNat)
  case atStart => exact ⟨2, Nat.le_refl _, by omega, rfl, rfl⟩
  case round =>
    obtain ⟨j, hj2, hj, rfl, hwr⟩ := hrel
    have hwr' := hwr.symm
    clear hwr
    subst hwr'
    by_cases hlt : j < 2 + m
    · have hlt' : (j : Int) < (n : Int) := by omega
      have hlt32 : (j : Int) < 32 := by omega
      obtain ⟨y, hy, hy1, hy2⟩ := HB.out (j - 2) (by omega)
      rw [show 2 + (j - 2) = j by omega] at hy
      have cj := HL.out.at_ j y hy
      have hy32 : (32 : Int) ≤ y := by omega
      have hy63 : y ≤ (63 : Int) := by omega
      clear hy
      go_wp2
      go_roundw
      case rel => exact ⟨j + 1, by omega, by omega, by go_num, by first | rfl | trivial⟩
      case measure => (simp [RowKit.intOf]; try omega)
    · obtain rfl : j = 2 + m := by omega
      have hlt' : ((2 + m : Nat) : Int) < (n : Int) := by omega
      have hlt32 : ((2 + m : Nat) : Int) < 32 := by omega
      have hnn : ¬ ((2 + m : Nat) : Int) = (n : Int) := by omega
      go_wp2_with fail
      have h2m : (2 : Int) ≤ 2 + (m : Int) := by omega
      have hmc : 2 + (m : Int) ≤ (cap : Int) := by omega
      have h2mz : (0 : Int) ≤ 2 + (m : Int) := by omega
      have hmn : 2 + (m : Int) < (n : Int) := by omega
      have hsub : 2 + m - 2 = m := by omega
      have htn : (2 + (m : Int)).toNat = 2 + m := by omega
      have hw63 : IntKind.i64.wrap (2 + (m : Int)) = 2 + (m : Int) := IntWalk.i64_in _ (by omega)
      go_region_with (go_at_call 55; (with_reducible refine (EN.out _ (Below.refl _ _).drew).mono ?_); rintro e w2 ⟨rfl, ht2⟩; have HT := Lib.hid ((Trm.refl_only ht2 hBw)); clear ht2)
      all_goals
        go_wp2
        go_ret
        exact ⟨by rw [show ((m + 3 : Nat) : Int) = 2 + (m : Int) + 1 by omega]; rfl, HT.out⟩

/-- readEscape, of a whole sequence. -/
theorem escT (p : Nat) (F : Nat → Prop) (r c : Nat) (s s' : Scr) (wt : List Int) (B b off n cap : Nat) (t : Tok) (body q L : List Int) (x : Int) (w : World) (hW : Wd w) (h : Trm w p F r c s wt) (hFB : ∀ j, F j → B ≤ j) (hBw : B ≤ w.heap.size) (hD : Does wd okR s t s') (ht : seqOf t = some (body, x)) (hf : Fits t) (hLe : L = 27 :: 91 :: (body ++ x :: q))
    (hL : Lies w b off L) (hn : n = L.length) (hcap63 : cap ≤ 9223372036854775807) (hcap : n ≤ cap) :
    Calls Tryz.prog 40 #[.pointer (some ⟨p, 0, none⟩), .slice (some ⟨b, off, none⟩) n cap] w fun e w' => e = .returned (.int .i64 (tokB t).length) ∧ Turned p F r c s' wt B w w' := by
  obtain ⟨h1, h2, h3⟩ := seq_body ht hf
  have hlen : (tokB t).length = body.length + 3 := by rw [seq_bytes ht]; simp
  have hn3 : body.length + 3 ≤ n := by rw [hn, hLe]; simp
  have c1 := hL.at_ 1 91 (by rw [hLe]; rfl)
  have SQ := Lib.hid (seqT p F r c s s' wt B b off n cap body.length t body q L x w hW h hFB hBw hD ht rfl hLe hL hn hcap63 h3 h2 hcap (fun k hk => ⟨body[k], by
    rw [hLe, Nat.add_comm 2 k, List.getElem?_cons_succ, List.getElem?_cons_succ, List.getElem?_append_left hk, List.getElem?_eq_getElem hk], by
    have := h1 body[k] (List.getElem_mem hk); omega⟩))
  rw [hlen]
  have hn1 : ((n : Int) == 1) = false := beq_eq_false_iff_ne.2 (by omega)
  have hn1' : (1 : Int) < (n : Int) := by omega
  clear hW h hFB hD ht hf hLe hL hn h1 h2 h3 hlen
  go_enter Tryz.func40, Tryz.ntmps40
  go_wp2_with fail
  (with_reducible refine SQ.out.mono ?_)
  rintro e w2 ⟨rfl, ht2⟩
  have HT := Lib.hid ht2
  clear ht2
  go_wp2
  go_ret
  exact ⟨rfl, HT.out⟩

/-- readEscape, of the beginning of a sequence. -/
theorem escHalf (p b off n cap : Nat) (t : Tok) (body L : List Int) (x : Int) (w : World) (ht : seqOf t = some (body, x)) (hf : Fits t) (hB : Begun t L) (h0 : L ≠ [])
    (hL : Lies w b off L) (hn : n = L.length) (hcap : n ≤ cap) :
    Calls Tryz.prog 40 #[.pointer (some ⟨p, 0, none⟩), .slice (some ⟨b, off, none⟩) n cap] w fun e w' => e = .returned (.int .i64 0) ∧ Below w.heap.size w w' := by
  obtain ⟨h1, h2, h3⟩ := seq_body ht hf
  rcases begun_seq ht hB with rfl | rfl | ⟨b', b'', rfl, rfl⟩
  · exact absurd rfl h0
  · obtain rfl : n = 1 := hn
    clear hL ht hf hB h1 h2 h3
    go_enter Tryz.func40, Tryz.ntmps40
    go_wp2
    go_ret
    exact ⟨rfl, Below.refl _ _⟩
  · have hn2 : n = 2 + b'.length := by rw [hn]; simp; omega
    have c1 := hL.at_ 1 91 rfl
    have hn1 : ((n : Int) == 1) = false := beq_eq_false_iff_ne.2 (by omega)
    have hn1' : (1 : Int) < (n : Int) := by omega
    have hb7 : b'.length ≤ 7 := by rw [List.length_append] at h2; omega
    have SQ := Lib.hid (seqHalf p b off n cap b'.length _ w hL hn hn2 hb7 hcap (fun k hk => ⟨b'[k], by
      rw [Nat.add_comm 2 k, List.getElem?_cons_succ, List.getElem?_cons_succ, List.getElem?_eq_getElem hk], by
      have := h1 b'[k] (List.mem_append_left _ (List.getElem_mem hk)); omega⟩))
    clear hL ht hf hB h1 h2 h3 hn hn2
    go_enter Tryz.func40, Tryz.ntmps40
    go_wp2_with fail
    (with_reducible refine SQ.out.mono ?_)
    rintro e w2 ⟨rfl, ht2⟩
    have HT := Lib.hid ht2
    clear ht2
    go_wp2
    go_ret
    exact ⟨rfl, HT.out⟩
end Go.Proofs.YtnbpkabnaipimaaGreatDoor
namespace Go.Proofs.YtnbpkabnaipimaaGreatDoor
open Go Go.RowKit Go.Lib

theorem does_fits {s s' : Scr} {t : Tok} {r c : Nat} (hr : r ≤ 60) (hI : Inv wd okR r c s) (h : Does wd okR s t s') : Fits t ∧ (∀ x, t = .rune x → okR x = true) := by
  cases h with
  | goto k hk => exact ⟨by have := hI.rows; show k ≤ 98; omega, fun x e => by cases e⟩
  | style k h0 h7 => exact ⟨⟨h0, h7⟩, fun x e => by cases e⟩
  | clear => exact ⟨trivial, fun x e => by cases e⟩
  | one1 x _ _ _ h1 => exact ⟨trivial, fun y e => by cases e; exact h1⟩
  | one2 x _ _ _ _ h1 => exact ⟨trivial, fun y e => by cases e; exact h1⟩
  | two11 x _ _ _ _ h1 => exact ⟨trivial, fun y e => by cases e; exact h1⟩
  | two12 x _ _ _ _ _ h1 => exact ⟨trivial, fun y e => by cases e; exact h1⟩
  | two2 x _ _ _ _ h1 => exact ⟨trivial, fun y e => by cases e; exact h1⟩
theorem seq_or (t : Tok) : (∃ x, t = .rune x) ∨ ∃ body x, seqOf t = some (body, x) := by
  cases t with
  | goto r => exact .inr ⟨_, _, rfl⟩
  | style s => exact .inr ⟨_, _, rfl⟩
  | clear => exact .inr ⟨_, _, rfl⟩
  | rune x => exact .inl ⟨x, rfl⟩
theorem tok_byte {t : Tok} (hf : Fits t) : ∀ z ∈ tokB t, 0 ≤ z ∧ z ≤ 255 := by
  intro z hz
  rcases seq_or t with ⟨x, rfl⟩ | ⟨body, x, h⟩
  · have := Lib.encodeRuneZ_byte x z hz
    omega
  · obtain ⟨h1, _, h3⟩ := seq_body h hf
    rw [seq_bytes h] at hz
    simp only [List.mem_cons, List.mem_append, List.not_mem_nil, or_false] at hz
    rcases hz with rfl | rfl | hz | rfl
    · omega
    · omega
    · have := h1 z hz
      omega
    · omega
/-- A rune's first byte is no escape. -/
theorem rune_first {x : Int} (h : okR x = true) : ∃ z u, Lib.encodeRuneZ x = z :: u ∧ z ≠ 27 := by
  have h32 : 32 ≤ x := by
    simp only [okR, Bool.and_eq_true, decide_eq_true_eq] at h
    exact h.1.1.2
  have hv := okR_valid h
  unfold Lib.validRune at hv
  simp at hv
  rcases (show x ≤ 127 ∨ (128 ≤ x ∧ x ≤ 2047) ∨ (2048 ≤ x ∧ x < 55296 ∨ 57343 < x ∧ x ≤ 65535) ∨ (65536 ≤ x ∧ x ≤ 1114111) by omega) with k | k | k | k
  · rw [Lib.encodeRuneZ_one (by omega) k]; exact ⟨_, _, rfl, by omega⟩
  · rw [Lib.encodeRuneZ_two k.1 k.2]; exact ⟨_, _, rfl, by omega⟩
  · rw [Lib.encodeRuneZ_three k]; exact ⟨_, _, rfl, by omega⟩
  · rw [Lib.encodeRuneZ_four k.1 k.2]; exact ⟨_, _, rfl, by omega⟩
theorem Lies.in_ {w : World} {b off : Nat} {L : List Int} (h : Lies w b off L) (hr : ∀ z ∈ L, 0 ≤ z ∧ z ≤ 255) : BytesIn (by8 L) (some ⟨b, off, none⟩) w := by
  refine .inr ⟨b, off, rfl, h.lt, fun j hj => ?_⟩
  rw [by8_len] at hj
  have hz := List.getElem?_eq_getElem hj
  rw [h.at_ j _ hz, bAt_int hz (hr _ (List.getElem_mem hj))]

set_option maxHeartbeats 4000000 in
set_option maxRecDepth 20000 in
/-- read, of a token's bytes. -/
theorem readT (p : Nat) (F : Nat → Prop) (r c : Nat) (s s' : Scr) (wt : List Int) (B b off n cap k : Nat) (t : Tok) (q L : List Int) (w : World) (hW : Wd w) (h : Trm w p F r c s wt) (hFB : ∀ j, F j → B ≤ j) (hBw : B ≤ w.heap.size) (hD : Does wd okR s t s') (hk : k = (tokB t).length) (hLe : L = tokB t ++ q)
    (hL : Lies w b off L) (hr : ∀ z ∈ L, 0 ≤ z ∧ z ≤ 255) (hn : n = L.length) (hcap63 : cap ≤ 9223372036854775807) (hcap : n ≤ cap) :
    Calls Tryz.prog 25 #[.pointer (some ⟨p, 0, none⟩), .slice (some ⟨b, off, none⟩) n cap] w fun e w' => e = .returned (.int .i64 k) ∧ Turned p F r c s' wt B w w' := by
  obtain ⟨hf, hok⟩ := does_fits h.r60 h.inv hD
  rcases seq_or t with ⟨x, rfl⟩ | ⟨body, x, ht⟩
  · obtain ⟨z, u, he, hz27⟩ := rune_first (hok x rfl)
    have hLz : L = z :: (u ++ q) := by rw [hLe]; show Lib.encodeRuneZ x ++ q = _; rw [he]; rfl
    have c0 := hL.at_ 0 z (by rw [hLz]; rfl)
    rw [Nat.add_zero] at c0
    have hnp : (0 : Int) < (n : Int) := by have : 0 < n := by rw [hn, hLz]; simp
                                           omega
    have hv := okR_valid (hok x rfl)
    have hx0 : 0 ≤ x := by
      unfold Lib.validRune at hv
      simp at hv
      omega
    have hkp : (0 : Int) < (k : Int) := by have : 0 < k := by rw [hk]; show 0 < (Lib.encodeRuneZ x).length; rw [he]; simp
                                           omega
    have FI := Lib.hid (firstAt (by8 L) (some ⟨b, off, none⟩) cap w (by rw [by8_len]; omega) hW.utf (hL.in_ hr))
    rw [by8_len, ← hn, show firstU (by8 L) = (x.toNat, k) by rw [hLe, hk]; exact firstU_rune hv q] at FI
    have hxn : ((x.toNat : Nat) : Int) = x := by omega
    have PT := Lib.hid (fun (w1 : World) (hb1 : Below w.heap.size w w1) => putT p F r c s s' wt B x w1 (hW.below hb1) (h.below hb1) hFB hD)
    have HX := Lib.hid hxn
    clear hW h hFB hD hk hLe hL hr hn hf hok he hLz hv hx0 hxn
    go_enter Tryz.func25, Tryz.ntmps25
    go_wp2_with fail
    (with_reducible refine FI.out.mono ?_)
    rintro e w1 ⟨rfl, hb1⟩
    rw [HX.out]
    have B1 := Lib.hid hb1
    clear hb1
    go_wp2_with fail
    (with_reducible refine (PT.out _ B1.out).mono ?_)
    rintro e w2 ⟨rfl, ht2⟩
    have HT := Lib.hid (Turned.trans (fun _ h => .inl h) (Only.of B1.out hBw) ht2)
    clear ht2
    go_wp2
    go_ret
    exact ⟨rfl, HT.out⟩
  · have hseq := seq_bytes ht
    have hLz : L = 27 :: 91 :: (body ++ x :: q) := by rw [hLe, hseq]; simp
    have c0 := hL.at_ 0 27 (by rw [hLz]; rfl)
    rw [Nat.add_zero] at c0
    have hnp : (0 : Int) < (n : Int) := by have : 0 < n := by rw [hn, hLz]; simp
                                           omega
    have ES := Lib.hid (escT p F r c s s' wt B b off n cap t body q L x w hW h hFB hBw hD ht hf hLz hL hn hcap63 hcap)
    rw [← hk] at ES
    clear hW h hFB hD hk hLe hL hr hn hf hok hLz hseq ht
    go_enter Tryz.func25, Tryz.ntmps25
    go_wp2_with fail
    (with_reducible refine ES.out.mono ?_)
    rintro e w2 ⟨rfl, ht2⟩
    have HT := Lib.hid ht2
    clear ht2
    go_wp2
    go_ret
    exact ⟨rfl, HT.out⟩

/-- read, of the beginning of a token's bytes, or of none. -/
theorem readHalf (p : Nat) (a : Option Addr) (n cap : Nat) (L : List Int) (w : World) (hW : Wd w) (hB : L = [] ∨ ∃ t, Fits t ∧ (∀ x, t = .rune x → okR x = true) ∧ Begun t L)
    (hL : L = [] ∨ ∃ b off, a = some ⟨b, off, none⟩ ∧ Lies w b off L) (hn : n = L.length) (hn63 : n ≤ 9223372036854775807) (hcap : n ≤ cap) :
    Calls Tryz.prog 25 #[.pointer (some ⟨p, 0, none⟩), .slice a n cap] w fun e w' => e = .returned (.int .i64 0) ∧ Below w.heap.size w w' := by
  have hfirst : BytesIn (by8 L) a w → firstU (by8 L) = (0, 0) → Calls Tryz.prog 41 #[.slice a n cap] w fun e w' => e = .returned (.tuple #[.int .i32 0, .int .i64 0]) ∧ Below w.heap.size w w' := fun hi h0 => by
    have := firstAt (by8 L) a cap w (by rw [by8_len]; omega) hW.utf hi
    rw [by8_len, ← hn, h0] at this
    exact this
  by_cases h0 : L = []
  · subst h0
    obtain rfl : n = 0 := hn
    have FI := Lib.hid (hfirst (.inl rfl) rfl)
    clear hfirst hW hB hL
    go_enter Tryz.func25, Tryz.ntmps25
    go_wp2_with fail
    (with_reducible refine FI.out.mono ?_)
    rintro e w1 ⟨rfl, hb1⟩
    have HB := Lib.hid hb1
    clear hb1
    go_wp2
    go_ret
    exact ⟨rfl, HB.out⟩
  · obtain ⟨b, off, rfl, hLL⟩ := hL.resolve_left h0
    clear hL
    obtain ⟨t, hf, hok, hb⟩ := hB.resolve_left h0
    have hnp : (0 : Int) < (n : Int) := by have := List.length_pos_iff.2 h0; omega
    rcases seq_or t with ⟨x, rfl⟩ | ⟨body, x, ht⟩
    · obtain ⟨z, u, he, hz27⟩ := rune_first (hok x rfl)
      obtain ⟨q, hq, hpq⟩ := hb
      have hpq' : L ++ q = Lib.encodeRuneZ x := hpq
      have hz : L[0]? = some z := by
        cases L with
        | nil => exact absurd rfl h0
        | cons y l =>
          rw [he, List.cons_append, List.cons.injEq] at hpq'
          rw [hpq'.1]
          rfl
      have c0 := hLL.at_ 0 z hz
      rw [Nat.add_zero] at c0
      have FI := Lib.hid (hfirst (hLL.in_ (fun y hy => tok_byte hf y (by rw [← hpq]; exact List.mem_append_left _ hy))) (firstU_begun (okR_valid (hok x rfl)) L q h0 hq hpq'))
      clear hfirst hW hB hLL hn hf hok hpq hpq' hz he
      go_enter Tryz.func25, Tryz.ntmps25
      go_wp2_with fail
      (with_reducible refine FI.out.mono ?_)
      rintro e w1 ⟨rfl, hb1⟩
      have HB := Lib.hid hb1
      clear hb1
      go_wp2
      go_ret
      exact ⟨rfl, HB.out⟩
    · have hz : L[0]? = some 27 := by
        rcases begun_seq ht hb with rfl | rfl | ⟨b', b'', _, rfl⟩
        · exact absurd rfl h0
        · rfl
        · rfl
      have c0 := hLL.at_ 0 27 hz
      rw [Nat.add_zero] at c0
      have ES := Lib.hid (escHalf p b off n cap t body L x w ht hf hb h0 hLL hn hcap)
      clear hfirst hW hB hLL hn hf hok hb hz ht
      go_enter Tryz.func25, Tryz.ntmps25
      go_wp2_with fail
      (with_reducible refine ES.out.mono ?_)
      rintro e w1 ⟨rfl, hb1⟩
      have HB := Lib.hid hb1
      clear hb1
      go_wp2
      go_ret
      exact ⟨rfl, HB.out⟩
end Go.Proofs.YtnbpkabnaipimaaGreatDoor
namespace Go.Proofs.YtnbpkabnaipimaaGreatDoor
open Go Go.RowKit Go.Lib

/-- Bytes that are still to be read. -/
def RestAt (lo hi : Nat) (w : World) (v : Value) (L : List Int) : Prop :=
  ∃ a n cap, v = .slice a n cap ∧ n = L.length ∧ n ≤ cap ∧ cap ≤ maxLen ∧ (a = none → n = 0 ∧ cap = 0) ∧ (L = [] ∨ ∃ g off, a = some ⟨g, off, none⟩ ∧ lo ≤ g ∧ g < hi ∧ Lies w g off L)
theorem own_rest {w : World} {lo n : Nat} {v : Value} {L : List Int} (h : w.ownsRow lo 5 1 v n (byV L)) : RestAt lo w.heap.size w v L := by
  have hl : n = L.length := by have := h.1; rw [byV_len] at this; omega
  rcases h.2 with ⟨rfl, h0⟩ | ⟨g, cap, cur, rfl, hlo, hh, hn, hc, _, _⟩
  · exact ⟨none, 0, 0, rfl, by omega, Nat.le_refl _, Nat.zero_le _, fun _ => ⟨rfl, rfl⟩, .inl (List.eq_nil_of_length_eq_zero (by omega))⟩
  · have hg : g < w.heap.size := (Array.getElem?_eq_some_iff.1 hh).1
    refine ⟨some ⟨g, 0, none⟩, n, cap, rfl, hl, hn, hc, fun e => (by cases e), .inr ⟨g, 0, rfl, hlo, hg, hg, fun j z hz => ?_⟩⟩
    have := h.cells (g := g) rfl j (.int .u8 z) (by unfold byV; rw [List.getElem?_map, hz]; rfl)
    rwa [Addr.add_lit] at this
theorem RestAt.keep {lo hi : Nat} {w w' : World} {v : Value} {L : List Int} (h : RestAt lo hi w v L) (hs : w.heap.size ≤ w'.heap.size) (hb : ∀ g, lo ≤ g → g < hi → w'.heap[g]? = w.heap[g]?) : RestAt lo hi w' v L := by
  obtain ⟨a, n, cap, h1, h2, h3, h4, h5, h6⟩ := h
  refine ⟨a, n, cap, h1, h2, h3, h4, h5, h6.imp id ?_⟩
  rintro ⟨g, off, e, k1, k2, k3⟩
  exact ⟨g, off, e, k1, k2, k3.block hs (hb g k1 k2)⟩
theorem runs_byte {r c : Nat} (hr : r ≤ 60) {s s' : Scr} {ts : List Tok} (h : DoesAll wd okR s ts s') : Inv wd okR r c s → (∀ z ∈ toksB ts, 0 ≤ z ∧ z ≤ 255) ∧ Inv wd okR r c s' := by
  induction h with
  | nil a => exact fun hI => ⟨fun z hz => by simp [toksB] at hz, hI⟩
  | cons hD _ ih =>
    intro hI
    obtain ⟨k1, k2⟩ := ih (Does.keeps wd okR okR_space hI hD)
    refine ⟨fun z hz => ?_, k2⟩
    rw [toksB_cons, List.mem_append] at hz
    exact hz.elim (fun hz => tok_byte (does_fits hr hI hD).1 z hz) (k1 z)
theorem tok_le {t : Tok} (hf : Fits t) : (tokB t).length ≤ 10 := by
  rcases seq_or t with ⟨x, rfl⟩ | ⟨body, x, h⟩
  · have := (Lib.encodeRuneZ_length x).2
    show (Lib.encodeRuneZ x).length ≤ 10
    omega
  · obtain ⟨_, h2, _⟩ := seq_body h hf
    rw [seq_bytes h]
    simp
    omega

def lenV : Value → Nat
  | .slice _ n _ => n
  | _ => 0

/-- Other bytes wait. -/
theorem trm_wait {w0 w : World} {p : Nat} {F : Nat → Prop} {r c : Nat} {s : Scr} {wt rest : List Int} {v : Value} {B n : Nat} (h : Trm w0 p F r c s wt) (hb : Below w0.heap.size w0 w) (ho : w.ownsRow w0.heap.size 5 1 v n (byV rest)) (hFB : ∀ j, F j → B ≤ j) (hB : B ≤ w0.heap.size) : Turned p F r c s rest B w0 (w.setCell ⟨p, 6, none⟩ v) := by
  have h' := h.below hb
  obtain ⟨g, gk, a, m, k, hg, hgp, hgk, hT, hO, hw⟩ := h'.mem
  have hp := h.lt p h.pF
  have hblk : ∀ j, j ≠ p → (w.setCell ⟨p, 6, none⟩ v).heap[j]? = w.heap[j]? := fun j hj => Below.heap_setCell w _ v j hj
  have hs : w.heap.size ≤ (w.setCell ⟨p, 6, none⟩ v).heap.size := (But1.set p 6 w v).size
  have hbs := hb.size
  refine ⟨fun k => F k ∨ (w0.heap.size ≤ k ∧ k < w.heap.size), ⟨h.r1, h.r60, h.c1, h.c60, h.inv, .inl h.pF, fun k hk => hk.elim (fun h1 => by have := h.lt k h1; omega) (fun h1 => by omega), fun k hk => hk.elim (h.top k) (fun h1 => by have := h.top p h.pF; omega), ?_⟩, fun k hk => hk.imp id (fun h1 => h1.1), (Only.of hb hB).set' h.pF (hFB p h.pF) v⟩
  obtain ⟨a', c', e, b2, b3, b4⟩ := own_bytesV ho
  subst e
  refine ⟨g, gk, a', rest.length, c', .inl hg, hgp, hgk, hT.set 6 _, own_block hO (hblk g hgp), ?_⟩
  have hW : Waits (fun k => F k ∨ (w0.heap.size ≤ k ∧ k < w.heap.size)) w p g a' rest.length c' rest := by
    refine ⟨⟨a', c', rfl, b2, b3, b4⟩, fun x hx => ?_⟩
    rcases ho.2 with ⟨e, _⟩ | ⟨g', cap, cur, e, hlo, hh, _⟩
    · simp only [Value.slice.injEq] at e
      rw [e.1] at hx
      cases hx
    · simp only [Value.slice.injEq] at e
      rw [e.1] at hx
      cases hx
      have hg' : g' < w.heap.size := (Array.getElem?_eq_some_iff.1 hh).1
      have := h.lt g hg
      exact ⟨.inr ⟨hlo, hg'⟩, by show g' ≠ p; omega, by show g' ≠ g; omega, hg'⟩
  exact hW.stay hs fun j _ hj _ => hblk j hj

set_option maxHeartbeats 8000000 in
set_option maxRecDepth 20000 in
theorem writeT (p : Nat) (F : Nat → Prop) (r c : Nat) (s s' : Scr) (wt bs : List Int) (us : List Tok) (rest : List Int) (v : Value) (B : Nat) (w : World) (hW : Wd w) (h : Trm w p F r c s wt) (hv : BytesF F w v bs) (hwl : wt.length ≤ 100000) (hbl : bs.length ≤ 100000) (he : wt ++ bs = toksB us ++ rest) (hrest : rest = [] ∨ ∃ t c', Begun t rest ∧ Does wd okR s' t c') (hR : DoesAll wd okR s us s') (hFB : ∀ k, F k → B ≤ k) (hBw : B ≤ w.heap.size) :
    Calls Tryz.prog 12 #[.pointer (some ⟨p, 0, none⟩), v] w fun e w' => e = .returned (.tuple #[]) ∧ Turned p F r c s' rest B w w' := by
  obtain ⟨g, gk, wa, wn, wc, hg, hgp, hgk, hT, ho, hw⟩ := h.mem
  obtain ⟨c6, k6⟩ := hT 6 _ rfl
  obtain ⟨wa', wc', e0, w2, w3, w4⟩ := hw.bytes
  cases e0
  obtain ⟨a, cap, rfl, v2, v3, v4, _⟩ := hv
  obtain ⟨hby, hI'⟩ := runs_byte h.r60 hR h.inv
  have hrb : ∀ z ∈ rest, 0 ≤ z ∧ z ≤ 255 := fun z hz => by
    rcases hrest with rfl | ⟨t, c', ⟨q, _, hq⟩, hD⟩
    · cases hz
    · exact tok_byte (does_fits h.r60 hI' hD).1 z (by rw [← hq]; exact List.mem_append_left _ hz)
  have hrest' : rest = [] ∨ ∃ t, Fits t ∧ (∀ x, t = .rune x → okR x = true) ∧ Begun t rest := hrest.imp id fun ⟨t, c', hb, hD⟩ => ⟨t, (does_fits h.r60 hI' hD).1, (does_fits h.r60 hI' hD).2, hb⟩
  have A1 := Lib.hid (show Below w.heap.size w (w.alloc (Obj.cells #[.slice wa wt.length wc, .slice a bs.length cap] 26)) from (Below.refl _ _).alloc (Nat.le_refl _) _)
  have CO := Lib.hid (concatAt w.heap.size wc cap wa a wt bs (w.alloc (Obj.cells #[.slice wa wt.length wc, .slice a bs.length cap] 26)) hwl hbl (fun e => w3.elim (fun h => ⟨h.2.1, h.2.2⟩) (fun ⟨b, off, h⟩ => by rw [h] at e; cases e)) (fun e => v3.elim (fun h => ⟨h.2.1, h.2.2⟩) (fun ⟨b, off, h⟩ => by rw [h] at e; cases e)) (w4.below A1.out) (v4.below A1.out) (by simp) (by go_simp) (by go_simp))
  have H := Lib.hid h
  have HW := Lib.hid hW
  have HE := Lib.hid he
  have HBY := Lib.hid hby
  have HRB := Lib.hid hrb
  have HRE := Lib.hid hrest'
  have HR := Lib.hid hR
  have HFB := Lib.hid hFB
  clear h hW he hby hrb hrest hrest' hR hFB hw w2 w3 w4 v2 v3 v4 hT ho hI'
  go_enter Tryz.func12, Tryz.ntmps12
  go_wp2_with fail
  (with_reducible refine CO.out.mono ?_)
  rintro e w1 ⟨v1, rfl, ho1, hb1⟩
  have B1 := Lib.hid (A1.out.trans (hb1.mono (by simp)))
  have RS := Lib.hid (show RestAt w.heap.size w1.heap.size w1 v1 (toksB us ++ rest) from by
    rw [HE.out] at ho1
    have := own_rest ho1
    obtain ⟨a, n, cap, h1, h2, h3, h4, h5, h6⟩ := this
    exact ⟨a, n, cap, h1, h2, h3, h4, h5, h6.imp id fun ⟨g, off, e, k1, k2, k3⟩ => ⟨g, off, e, by have : w.heap.size + 1 ≤ g := (by simpa using k1); omega, k2, k3⟩⟩)
  have T1 := Lib.hid ((H.out.below B1.out).refl B)
  have hw1 := B1.out.size
  clear ho1 hb1 CO A1
  go_wp2
  go_loopw [4] (fun v wr => ∃ ts si, DoesAll wd okR si ts s' ∧ (∀ z ∈ toksB ts ++ rest, 0 ≤ z ∧ z ≤ 255) ∧ Turned p F r c si wt B w1 wr ∧ RestAt w.heap.size w1.heap.size wr v (toksB ts ++ rest)) (fun v _ => lenV v)
  case atStart => exact ⟨us, s, HR.out, fun z hz => (List.mem_append.1 hz).elim (HBY.out z) (HRB.out z), T1.out, RS.out⟩
  case round =>
    clear T1 RS
    obtain ⟨ts, si, hR, hby, hTu, hRS⟩ := hrel
    obtain ⟨F1, htr, hF1, hon⟩ := hTu
    obtain ⟨a1, n1, cap1, rfl, hn1, hnc, hc63, hnone, hlies⟩ := hRS
    have hson := hon.below.size
    have hWr : Wd wr := HW.out.of (Nat.le_trans hw1 hson) fun k hk => (hon.rest k (by have := HW.out.size; omega) (fun hk' => by have := H.out.top k hk'; omega)).trans (B1.out.block k (by have := HW.out.size; omega))
    have hFB1 : ∀ j, F1 j → B ≤ j := fun j hj => (hF1 j hj).elim (HFB.out j) (fun h => by omega)
    have hc64 : cap1 ≤ 9223372036854775807 := by unfold maxLen at hc63; omega
    have hgF : ∀ g, w.heap.size ≤ g → g < w1.heap.size → ¬ F1 g := fun g h1 h2 h3 => (hF1 g h3).elim (fun h => by have := H.out.lt g h; omega) (fun h => by omega)
    cases hR with
    | cons hD hR' =>
      rename_i s1 t ts
      obtain ⟨k, hk⟩ : ∃ k, k = (tokB t).length := ⟨_, rfl⟩
      have hLe : toksB (t :: ts) ++ rest = tokB t ++ (toksB ts ++ rest) := by rw [toksB_cons, List.append_assoc]
      have hk1 : 0 < k := by rw [hk]; exact List.length_pos_iff.2 (tokB_ne t)
      have hkn : k ≤ n1 := by rw [hn1, hLe, List.length_append, ← hk]; omega
      obtain ⟨g1, off, rfl, hlo, hhi, hli⟩ := hlies.resolve_left (by
        rw [hLe]
        intro e
        exact tokB_ne t (List.append_eq_nil_iff.1 e).1)
      have RT := Lib.hid (readT p F1 r c si s1 wt B g1 off n1 cap1 k t (toksB ts ++ rest) _ wr hWr htr hFB1 (by omega) hD hk hLe hli hby hn1 hc64 hnc)
      have HON := Lib.hid hon
      have HF1 := Lib.hid hF1
      have HGF := Lib.hid (hgF g1 hlo hhi)
      have HLI := Lib.hid (show Lies wr g1 (off + k) (toksB ts ++ rest) from by have := hli.drop k; rw [hLe, hk, List.drop_left] at this; rw [hk]; exact this)
      have HR' := Lib.hid hR'
      have HBY' := Lib.hid (fun z (hz : z ∈ toksB ts ++ rest) => hby z (by rw [hLe]; exact List.mem_append_right _ hz))
      have hnl : n1 - k = (toksB ts ++ rest).length := by rw [hn1, hLe, List.length_append, ← hk]; omega
      have HNL := Lib.hid hnl
      have hkz : ((k : Int) == 0) = false := beq_eq_false_iff_ne.2 (by omega)
      have hkn' : (k : Int) ≤ (n1 : Int) := by omega
      have hnc' : (n1 : Int) ≤ (cap1 : Int) := by omega
      clear hon hF1 hgF hli hlies hR' hby hn1 hLe hD htr hWr hFB1 hnl hk hnone
      go_wp2_with fail
      (with_reducible refine RT.out.mono ?_)
      rintro e w2 ⟨rfl, ht2⟩
      have HT2 := Lib.hid ht2
      clear ht2
      go_wp2
      refine ⟨⟨ts, s1, HR'.out, HBY'.out, Turned.trans HF1.out HON.out HT2.out, _, _, _, rfl, HNL.out, by omega, by omega, fun e => ?_, ?_⟩, ?_⟩
      · split at e <;> cases e
      · by_cases hck : cap1 = k
        · left
          exact List.eq_nil_of_length_eq_zero (by rw [← HNL.out]; omega)
        · right
          rw [if_neg hck]
          obtain ⟨F2, _, _, hon2⟩ := HT2.out
          exact ⟨g1, off + k, rfl, hlo, hhi, HLI.out.block hon2.below.size (hon2.rest g1 (by omega) HGF.out)⟩
      · show n1 - k < n1
        omega
    | nil =>
      rw [show toksB [] ++ rest = rest from rfl] at hby hn1 hlies
      have RH := Lib.hid (readHalf p a1 n1 cap1 rest wr hWr HRE.out (hlies.imp id fun ⟨g, off, e, _, _, k3⟩ => ⟨g, off, e, k3⟩) hn1 (by omega) hnc)
      have hrl : rest.length ≤ 200000 := by
        rcases HRE.out with rfl | ⟨t, hf, _, q, _, hq⟩
        · exact Nat.zero_le _
        · have := tok_le hf
          rw [← hq, List.length_append] at this
          omega
      have hsq : SeqAt .u8 wr a1 rest.length rest := ⟨rfl, hlies.elim (fun h => .inl (by rw [h]; rfl)) (fun ⟨g, off, e, _, _, k3⟩ => .inr ⟨g, off, e, k3.lt, k3.at_⟩)⟩
      have CL := Lib.hid (fun (w2 : World) (hb : Below wr.heap.size wr w2) => cloneAt a1 cap1 rest w2 hrl (by rw [← hn1]; exact hnone) (hsq.below hb))
      have HTR := Lib.hid htr
      have HON := Lib.hid hon
      have HF1 := Lib.hid hF1
      have HFB1 := Lib.hid hFB1
      have HN1 := Lib.hid hn1
      clear htr hon hF1 hgF hlies hby hn1 hWr hFB1 hsq hnone
      go_wp2_with fail
      (with_reducible refine RH.out.mono ?_)
      rintro e w2 ⟨rfl, hb2⟩
      have B2 := Lib.hid hb2
      clear hb2
      rw [HN1.out]
      go_wp2_with fail
      (with_reducible refine (CL.out _ B2.out).mono ?_)
      rintro e w3 ⟨v3, rfl, ho3, hb3⟩
      have hs2 := B2.out.size
      obtain ⟨a4, n4, k4, rfl⟩ : ∃ a n k, v3 = .slice a n k := by
        rcases ho3.2 with ⟨e, _⟩ | ⟨g', cap', cur, e, _⟩
        · exact ⟨_, _, _, e⟩
        · exact ⟨_, _, _, e⟩
      have X := Lib.hid (trm_wait (HTR.out.below B2.out) hb3 ho3 HFB1.out (by omega))
      have X1 := Lib.hid (Turned.trans (fun _ h => .inl h) (Only.of B1.out hBw) (Turned.trans HF1.out HON.out (Turned.trans (fun _ h => .inl h) (Only.of B2.out (by omega)) X.out)))
      obtain ⟨g3, gk3, a3, m3, k3, _, _, _, hT3, _, _⟩ := ((HTR.out.below B2.out).below hb3).mem
      obtain ⟨d6, e6⟩ := hT3 6 _ rfl
      clear ho3 hb3 hT3 CL RH X
      go_wp2
      go_end0
      exact ⟨rfl, X1.out⟩

/-- A terminal, with few bytes that wait. -/
def Trm1 (w : World) (p : Nat) (F : Nat → Prop) (r c : Nat) (s : Scr) (wt : List Int) : Prop := Trm w p F r c s wt ∧ wt.length ≤ 100000
theorem tsaid : TSaid Wd Trm1 where
  foot := fun h => h.1.lt
  shape := fun h => ⟨h.1.inv.rows, h.1.inv.len⟩
  stay := fun h hs hF => ⟨h.1.stay hs hF, h.2⟩
  new := fun r c w hW h1 h2 h3 h4 => (newAt r c w hW.size h1 h2 h3 h4).mono fun e w' ⟨p, F, he, ht, hF, hb⟩ => ⟨p, F, he, ⟨ht, Nat.zero_le _⟩, hF, hb⟩
  write := fun p F r c s s' wt bs us rest v B w hW h hv hbl he hrest hR hFB hB _ _ => (writeT p F r c s s' wt bs us rest v B w hW h.1 hv h.2 hbl he hrest hR hFB hB).mono fun e w' ⟨he', F', ht, hF, ho⟩ => ⟨F', he', ⟨ht, by
    rcases hrest with rfl | ⟨t, c', ⟨q, _, hq⟩, hD⟩
    · exact Nat.zero_le _
    · have := tok_le (does_fits h.1.r60 (runs_byte h.1.r60 hR h.1.inv).2 hD).1
      rw [← hq, List.length_append] at this
      omega⟩, hF, ho⟩
  grid := fun p F r c s wt w _ h _ _ => gridT p F r c s wt w h.1
  size := fun p F r c r' c' s wt B w _ h h1 h2 h3 h4 hFB _ => (sizeT p F r c r' c' s wt B w h.1 h1 h2 h3 h4 hFB).mono fun e w' ⟨F', he, ht, hF, ho⟩ => ⟨F', he, ⟨ht, h.2⟩, hF, ho⟩
end Go.Proofs.YtnbpkabnaipimaaGreatDoor
