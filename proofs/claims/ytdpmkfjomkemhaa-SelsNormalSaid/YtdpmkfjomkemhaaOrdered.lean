/- The contract of the program's ordered. Conditions: the slice is one of the call's own, not empty, and holds not too many. -/
import Derived.Test.YtdpmkfjomkemhaaStable
namespace Go.Proofs.Ytdpmkfjomkemhaa
open Go Go.RowKit Go.Sort Go.Proofs Go.Lib

theorem sortStable (blk off cap n : Nat) (d0 d : Array Sl) (w0 w : World) (R : R2 w0 blk off d0) (hs : d.size = d0.size) (S : W2 w0 blk off d w) (hn : d.size = n) (hsz : n ≤ 1000) :
    Calls Try.prog 22 #[.slice (some ⟨blk, off, none⟩) n cap, .func (.func 23) #[] #[]] w (SymPost w0 blk off 0 n d) := by
  have C := Lib.hid (stable blk off cap n d0 d w0 w R hs S hn hsz)
  clear R hs S hn
  go_enter Try.func22, Try.ntmps22
  go_wp2_with fail
  (with_reducible refine C.out.mono ?_)
  rintro e w1 ⟨rfl, d1, g1, s1, hw⟩
  have G := Lib.hid g1
  have SS := Lib.hid s1
  have WW := Lib.hid hw
  clear g1 s1 hw C
  go_wp2
  go_end0
  exact ⟨rfl, d1, G.out, SS.out, WW.out⟩

theorem ordered (B g n c : Nat) (ls : List Sl) (w : World) (h : w.ownsRow B 24 2 (.slice (some ⟨g, 0, none⟩) n c) n (flat Sl.cells ls)) (hn : n ≤ 1000) :
    Calls Try.prog 16 #[.slice (some ⟨g, 0, none⟩) n c] w fun e w' => e = .returned (.slice (some ⟨g, 0, none⟩) n c) ∧ ∃ d' : Array Sl, Stab ls.toArray d' ∧ SortedIn ltS 0 n d' ∧ d'.size = n ∧ RowAt Sl.cells 24 w' (some ⟨g, 0, none⟩) n d'.toList ∧ Below g w w' := by
  have hl : ls.length = n := by have := h.1; rw [flat_len sl_len] at this; omega
  have hg : g < w.heap.size := (h.lt g rfl).2
  have hH := holds_of_own h
  have C := Lib.hid (sortStable g 0 c n ls.toArray ls.toArray w w ⟨sl_len, sl_one1, hH, hg⟩ rfl (SWK.start hH) (by simpa using hl) hn)
  have HH := Lib.hid hH
  have HG := Lib.hid hg
  have HL := Lib.hid hl
  clear h hH hl hg
  go_enter Try.func16, Try.ntmps16
  go_wp2_with fail
  (with_reducible refine C.out.mono ?_)
  rintro e w1 ⟨rfl, d1, g1, s1, hw⟩
  have hz : d1.size = n := g1.size.trans (by simpa using HL.out)
  have R1 := Lib.hid (row_of_holds (hw.holds HG.out HH.out g1.size) (hw.lt HG.out))
  have B1 := Lib.hid (below_of_W2 hw HG.out)
  have G := Lib.hid g1
  have SS := Lib.hid s1
  have HZ := Lib.hid hz
  clear g1 s1 hw C hz
  go_wp2
  go_ret
  exact ⟨rfl, d1, G.out.2, SS.out, HZ.out, by have := R1.out; rwa [HZ.out] at this, B1.out⟩
end Go.Proofs.Ytdpmkfjomkemhaa
