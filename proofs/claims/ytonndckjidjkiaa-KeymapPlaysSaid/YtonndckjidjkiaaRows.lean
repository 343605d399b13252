/-
  No cell of these rows narrows 'for every input' (looked for: loops, veiled, ifaces, maps, wideKeys, modest, calm, conditions, laid).
  DERIVED. THE GIVEN ROWS OF THIS SEAT. 2 by the template 'for every input the law returns true; each argument reads behind the call as it read before'; 0 by the template 'total and deterministic' (their statements: YtonndckjidjkiaaTotals.lean).
  GIVEN WITH THE SEED: the statements are not yours to turn. If you find one false, say at which input.
  Laid BY PROGRAM, IN A SANDBOX (cutbox-rows.mjs): the forced cells as the released guide's own fill.sh prints them over the translation fde985d2206c0684… (all of the seat's roots in one cut). By AI agents, Wed Nov 11 2026. No macro, syntax, notation, axiom, sorry.
-/
import Derived.Test.YtonndckjidjkiaaChecked
import GoSem.Claim
import GoSem.ClaimJoined
import GoSem.ClaimMapViews
import Derived.JoinedTies
import Derived.KernelRfl
namespace Go.Proofs.Ytonndckjidjkiaa
/- THE CELL 'sum', in the pinned program and in every row, IS THE sha256 OF THE DUMP (.gsa) THAT YtonndckjidjkiaaProg.lean LOADS. Nothing in Lean hashes anything: it is a label: what it is worth is what the hold of that sum in a sandbox is worth. -/
noncomputable def Try.pinned : Pinned := { name := "ytonndckjidjkiaa", sum := "fde985d2206c068496ed59fdeb8b585aecce0b8f9931c1344770436c592fed1e", checked := Try.checked }
namespace Rows
def none {H : Type} : Left H := { results := [], args := [] }

/-- 'styluslaw21.KeymapFinds': WHATEVER THE INPUT: true; the input reads as it did. -/
def keymapFindsSpec : ChangeSpec := { name := "keymapFinds", fn := fun _ => fun
  | [d1, d2] => { results := [.lit (.bool true)], args := [d1, d2] }
  | _ => none }
def keymapFindsRow : OpenClaim := { program := "ytonndckjidjkiaa", sum := "fde985d2206c068496ed59fdeb8b585aecce0b8f9931c1344770436c592fed1e", func := "stylus/styluslaw21.KeymapFinds", spec := "keymapFinds", apart := false }
def KeymapFindsSaid : Prop := keymapFindsRow.holds Try.pinned (OpenSpec.ofChange keymapFindsSpec)

/-- ITS FALSE NEIGHBOUR: 'it returns false'. Refute it at one input. -/
def keymapFindsWrong : ChangeSpec := { name := "keymapFinds", fn := fun _ => fun
  | [d1, d2] => { results := [.lit (.bool false)], args := [d1, d2] }
  | _ => none }
def KeymapFindsWrongFalsely : Prop := keymapFindsRow.holds Try.pinned (OpenSpec.ofChange keymapFindsWrong)

/-- 'styluslaw21.KeymapPlays': WHATEVER THE INPUT: true; the input reads as it did. -/
def keymapPlaysSpec : ChangeSpec := { name := "keymapPlays", fn := fun _ => fun
  | [d] => { results := [.lit (.bool true)], args := [d] }
  | _ => none }
def keymapPlaysRow : OpenClaim := { program := "ytonndckjidjkiaa", sum := "fde985d2206c068496ed59fdeb8b585aecce0b8f9931c1344770436c592fed1e", func := "stylus/styluslaw21.KeymapPlays", spec := "keymapPlays", apart := false }
def KeymapPlaysSaid : Prop := keymapPlaysRow.holds Try.pinned (OpenSpec.ofChange keymapPlaysSpec)

/-- ITS FALSE NEIGHBOUR: 'it returns false'. Refute it at one input. -/
def keymapPlaysWrong : ChangeSpec := { name := "keymapPlays", fn := fun _ => fun
  | [d] => { results := [.lit (.bool false)], args := [d] }
  | _ => none }
def KeymapPlaysWrongFalsely : Prop := keymapPlaysRow.holds Try.pinned (OpenSpec.ofChange keymapPlaysWrong)

/- THE SECOND FORM. 'bulk': how many values and letters a reading holds, each counted each time it is reached (what is shared counts as often as it is met; a slice's spare places count too). A statement '..UptoSaid' is the law's where the arguments, and the package variables that the reading takes, are together of bulk at most 1048576: NARROWER than '..Said'. Prove '..Said' where nothing that the law and all that it calls make is longer than what came in: it says more and counts as full. Else prove '..UptoSaid'. A law counts once. -/
mutual
def uptoBulk {H : Type} : DataW H → Nat
  | .lit (.string bytes) => bytes.length + 1
  | .lit _ => 1
  | .nil => 1
  | .ptr d => uptoBulk d + 1
  | .slice elems spare => uptoBulkAll elems + uptoBulkAll spare + 1
  | .agg parts => uptoBulkAll parts + 1
  | .iface _ d => uptoBulk d + 1
  | .map entries => uptoBulkEntries entries + 1
  | .held _ => 1
def uptoBulkAll {H : Type} : List (DataW H) → Nat
  | [] => 0
  | d :: r => uptoBulk d + uptoBulkAll r
def uptoBulkEntries {H : Type} : List (Lit × DataW H) → Nat
  | [] => 0
  | x :: r => uptoBulkEntry x + uptoBulkEntries r
def uptoBulkEntry {H : Type} : Lit × DataW H → Nat
  | (.string bytes, d) => bytes.length + uptoBulk d + 1
  | (_, d) => uptoBulk d + 1
 end
def uptoSmall : (H : Type) → List (DataW H) → Bool := fun _ ds => decide (uptoBulkAll ds ≤ 1048576)
def OpenSpec.upto (s : _root_.Go.ChangeSpec) : _root_.Go.OpenSpec := { _root_.Go.OpenSpec.ofChange s with cond := some uptoSmall }

/-- 'styluslaw21.KeymapFinds', WHERE WHAT IT READS IS OF BULK AT MOST 1048576: true; the input reads as it did. -/
def keymapFindsUptoRow : OpenClaim := { program := "ytonndckjidjkiaa", sum := "fde985d2206c068496ed59fdeb8b585aecce0b8f9931c1344770436c592fed1e", func := "stylus/styluslaw21.KeymapFinds", spec := "keymapFinds", apart := false, narrowed := true }
def KeymapFindsUptoSaid : Prop := keymapFindsUptoRow.holds Try.pinned (OpenSpec.upto keymapFindsSpec)

/-- 'styluslaw21.KeymapPlays', WHERE WHAT IT READS IS OF BULK AT MOST 1048576: true; the input reads as it did. -/
def keymapPlaysUptoRow : OpenClaim := { program := "ytonndckjidjkiaa", sum := "fde985d2206c068496ed59fdeb8b585aecce0b8f9931c1344770436c592fed1e", func := "stylus/styluslaw21.KeymapPlays", spec := "keymapPlays", apart := false, narrowed := true }
def KeymapPlaysUptoSaid : Prop := keymapPlaysUptoRow.holds Try.pinned (OpenSpec.upto keymapPlaysSpec)

end Rows
end Go.Proofs.Ytonndckjidjkiaa
