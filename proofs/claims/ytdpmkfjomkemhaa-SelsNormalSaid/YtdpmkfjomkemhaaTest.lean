/- What a walk of the sort's merge wants: a test of two selections, in a region that draws. Conditions: none. -/
import Derived.Test.YtdpmkfjomkemhaaRotate
import Derived.Test.YtdpmkfjomkemhaaClosure
import Derived.Shelf.SlSortCmp.QuietGrown
namespace Go.Proofs.Ytdpmkfjomkemhaa
open Go Go.RowKit Go.Sort Go.Proofs Go.Lib

theorem test_facts {w0 W : World} {blk off : Nat} {D d0 : Array Sl} (S : W2 w0 blk off D W) (R : R2 w0 blk off d0) (hs : D.size = d0.size) (p q : Nat) (hp : p < D.size) (hq : q < D.size) :
    (∀ n os, (grow (W.drewN n) os).cell? ⟨blk, off + p * 2, none⟩ = some (.int .i64 D[p]!.a)) ∧ (∀ n os, (grow (W.drewN n) os).cell? ⟨blk, off + p * 2 + 1, none⟩ = some (.int .i64 D[p]!.h)) ∧
    (∀ n os, (grow (W.drewN n) os).cell? ⟨blk, off + q * 2, none⟩ = some (.int .i64 D[q]!.a)) ∧ (∀ n os, (grow (W.drewN n) os).cell? ⟨blk, off + q * 2 + 1, none⟩ = some (.int .i64 D[q]!.h)) ∧
    ∀ n os, Calls Try.prog 23 #[.agg #[.int .i64 D[p]!.a, .int .i64 D[p]!.h], .agg #[.int .i64 D[q]!.a, .int .i64 D[q]!.h]] (grow (W.drewN n) os) fun e w' => e = .returned (.int .i64 (cfS D[p]! D[q]!)) ∧ ∃ g : GrownBy, w' = grow (W.drewN g.n) g.os := by
  have h1 := fun n os => W2.cells (SWK.grown S n os) R hs p hp
  have h2 := fun n os => W2.cells (SWK.grown S n os) R hs q hq
  refine ⟨fun n os => (h1 n os).1.1, fun n os => (h1 n os).2.1, fun n os => (h2 n os).1.1, fun n os => (h2 n os).2.1, fun n os => Calls.grown_of ((closure D[p]! D[q]! _).mono ?_)⟩
  rintro e w' ⟨he, hb, hd⟩
  exact ⟨he, grown_of_below hb hd⟩

theorem cmpLays (blk off size : Nat) (w : World) : CmpLays Try.prog 23 #[] Sl.cells 2 cfS blk off size w := fun _ _ _ _ x y =>
  (closure x y _).mono fun _ _ ⟨he, hb, hd⟩ => ⟨he, grown_of_below hb hd⟩

/-- The insertion sort, from a world of the sort's. -/
theorem insertion (blk off cap a b : Nat) (d0 d : Array Sl) (w0 w : World) (R : R2 w0 blk off d0) (hs : d.size = d0.size) (S : W2 w0 blk off d w) (hab : a ≤ b) (hb : b ≤ d.size) (hsz : d.size ≤ 1000) :
    Calls Try.prog 30 #[.slice (some ⟨blk, off, none⟩) d.size cap, .int .i64 a, .int .i64 b, .func (.func 23) #[] #[]] w fun e w' => e = .returned (.tuple #[]) ∧ ∃ d', Good a b d d' ∧ SortedIn ltS a b d' ∧ W2 w0 blk off d' w' := by
  have eg : ∀ args w, (callFunc 23 args).run Try.prog w = .ok (.enter 23 args) w := enters_of Try.func23 (by kernel_rfl) rfl
  have h := AnyQ.insertionSortCmpFunc Try.insSel 2 Try.isAgg24 Try.sizeOf24 Sl.cells sl_len sl_one1 cfS 23 #[] blk off cap a b d w eg (cmpLays blk off d.size w) (S.holds R.hblk R.hH hs) (S.lt R.hblk) hab hb (by omega)
  refine (show Calls Try.prog 30 _ _ _ from h).mono ?_
  rintro e w' ⟨he, n, os, rfl⟩
  have g := ins_good d a b hab hb
  exact ⟨he, _, g.1, g.2, S.on R.hblk n _ os g.1.size⟩
end Go.Proofs.Ytdpmkfjomkemhaa
