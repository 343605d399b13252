/-
  No cell of these rows narrows 'for every input' (looked for: loops, veiled, ifaces, maps, wideKeys, modest, calm, conditions, laid).
  DERIVED. THE GIVEN ROWS OF THIS SEAT. 3 by the template 'for every input the law returns true; each argument reads behind the call as it read before'; 0 by the template 'total and deterministic' (their statements: YtlihgcpiokaehaaTotals.lean).
  GIVEN WITH THE SEED: the statements are not yours to turn. If you find one false, say at which input.
  Laid BY PROGRAM, IN A SANDBOX (cutbox-rows.mjs): the forced cells as the released guide's own fill.sh prints them over the translation 3d820cc370e87b39… (all of the seat's roots in one cut). By AI agents, Wed Nov 11 2026. No macro, syntax, notation, axiom, sorry.
-/
import Derived.Test.YtlihgcpiokaehaaChecked
import GoSem.Claim
import GoSem.ClaimJoined
import GoSem.ClaimMapViews
import Derived.JoinedTies
import Derived.KernelRfl
namespace Go.Proofs.Ytlihgcpiokaehaa
/- THE CELL 'sum', in the pinned program and in every row, IS THE sha256 OF THE DUMP (.gsa) THAT YtlihgcpiokaehaaProg.lean LOADS. Nothing in Lean hashes anything: it is a label: what it is worth is what the hold of that sum in a sandbox is worth. -/
noncomputable def Try.pinned : Pinned := { name := "ytlihgcpiokaehaa", sum := "3d820cc370e87b39c344867f7cb671d915ab41ebb131eaaef7609a0ae5ae6fb4", checked := Try.checked }
namespace Rows
def none {H : Type} : Left H := { results := [], args := [] }

/-- 'styluslaw04.MarksMove': WHATEVER THE INPUT: true; the input reads as it did. -/
def marksMoveSpec : ChangeSpec := { name := "marksMove", fn := fun _ => fun
  | [d1, d2] => { results := [.lit (.bool true)], args := [d1, d2] }
  | _ => none }
def marksMoveRow : OpenClaim := { program := "ytlihgcpiokaehaa", sum := "3d820cc370e87b39c344867f7cb671d915ab41ebb131eaaef7609a0ae5ae6fb4", func := "stylus/styluslaw04.MarksMove", spec := "marksMove", unfollowed := true, recurses := true, apart := false }
def MarksMoveSaid : Prop := marksMoveRow.holds Try.pinned (OpenSpec.ofChange marksMoveSpec)

/-- ITS FALSE NEIGHBOUR: 'it returns false'. Refute it at one input. -/
def marksMoveWrong : ChangeSpec := { name := "marksMove", fn := fun _ => fun
  | [d1, d2] => { results := [.lit (.bool false)], args := [d1, d2] }
  | _ => none }
def MarksMoveWrongFalsely : Prop := marksMoveRow.holds Try.pinned (OpenSpec.ofChange marksMoveWrong)

/-- 'styluslaw04.MarksPlay': WHATEVER THE INPUT: true; the input reads as it did. -/
def marksPlaySpec : ChangeSpec := { name := "marksPlay", fn := fun _ => fun
  | [d] => { results := [.lit (.bool true)], args := [d] }
  | _ => none }
def marksPlayRow : OpenClaim := { program := "ytlihgcpiokaehaa", sum := "3d820cc370e87b39c344867f7cb671d915ab41ebb131eaaef7609a0ae5ae6fb4", func := "stylus/styluslaw04.MarksPlay", spec := "marksPlay", unfollowed := true, recurses := true, apart := false }
def MarksPlaySaid : Prop := marksPlayRow.holds Try.pinned (OpenSpec.ofChange marksPlaySpec)

/-- ITS FALSE NEIGHBOUR: 'it returns false'. Refute it at one input. -/
def marksPlayWrong : ChangeSpec := { name := "marksPlay", fn := fun _ => fun
  | [d] => { results := [.lit (.bool false)], args := [d] }
  | _ => none }
def MarksPlayWrongFalsely : Prop := marksPlayRow.holds Try.pinned (OpenSpec.ofChange marksPlayWrong)

/-- 'styluslaw04.MarksNest': WHATEVER THE INPUT: true; the input reads as it did. -/
def marksNestSpec : ChangeSpec := { name := "marksNest", fn := fun _ => fun
  | [d1, d2] => { results := [.lit (.bool true)], args := [d1, d2] }
  | _ => none }
def marksNestRow : OpenClaim := { program := "ytlihgcpiokaehaa", sum := "3d820cc370e87b39c344867f7cb671d915ab41ebb131eaaef7609a0ae5ae6fb4", func := "stylus/styluslaw04.MarksNest", spec := "marksNest", unfollowed := true, recurses := true, apart := false }
def MarksNestSaid : Prop := marksNestRow.holds Try.pinned (OpenSpec.ofChange marksNestSpec)

/-- ITS FALSE NEIGHBOUR: 'it returns false'. Refute it at one input. -/
def marksNestWrong : ChangeSpec := { name := "marksNest", fn := fun _ => fun
  | [d1, d2] => { results := [.lit (.bool false)], args := [d1, d2] }
  | _ => none }
def MarksNestWrongFalsely : Prop := marksNestRow.holds Try.pinned (OpenSpec.ofChange marksNestWrong)

/- THE SECOND FORM. 'bulk': how many values and letters a reading holds, each counted each time it is reached (what is shared counts as often as it is met; a slice's spare places count too). A statement '..UptoSaid' is the law's where the arguments, and the package variables that the reading takes, are together of bulk at most 1048576: NARROWER than '..Said'. Prove '..Said' where nothing that the law and all that it calls make is longer than what came in: it says more and counts as full. Else prove '..UptoSaid'. A law counts once. -/
mutual
def uptoBulk {H : Type} : DataW H → Nat
  | .lit (.string bytes) => bytes.length + 1
  | .lit _ => 1
  | .nil => 1
  | .ptr d => uptoBulk d + 1
  | .slice elems spare => uptoBulkAll elems + uptoBulkAll spare + 1
  | .agg parts => uptoBulkAll parts + 1
  | .iface _ d => uptoBulk d + 1
  | .map entries => uptoBulkEntries entries + 1
  | .held _ => 1
def uptoBulkAll {H : Type} : List (DataW H) → Nat
  | [] => 0
  | d :: r => uptoBulk d + uptoBulkAll r
def uptoBulkEntries {H : Type} : List (Lit × DataW H) → Nat
  | [] => 0
  | x :: r => uptoBulkEntry x + uptoBulkEntries r
def uptoBulkEntry {H : Type} : Lit × DataW H → Nat
  | (.string bytes, d) => bytes.length + uptoBulk d + 1
  | (_, d) => uptoBulk d + 1
 end
def uptoSmall : (H : Type) → List (DataW H) → Bool := fun _ ds => decide (uptoBulkAll ds ≤ 1048576)
def OpenSpec.upto (s : _root_.Go.ChangeSpec) : _root_.Go.OpenSpec := { _root_.Go.OpenSpec.ofChange s with cond := some uptoSmall }

/-- 'styluslaw04.MarksMove', WHERE WHAT IT READS IS OF BULK AT MOST 1048576: true; the input reads as it did. -/
def marksMoveUptoRow : OpenClaim := { program := "ytlihgcpiokaehaa", sum := "3d820cc370e87b39c344867f7cb671d915ab41ebb131eaaef7609a0ae5ae6fb4", func := "stylus/styluslaw04.MarksMove", spec := "marksMove", unfollowed := true, recurses := true, apart := false, narrowed := true }
def MarksMoveUptoSaid : Prop := marksMoveUptoRow.holds Try.pinned (OpenSpec.upto marksMoveSpec)

/-- 'styluslaw04.MarksPlay', WHERE WHAT IT READS IS OF BULK AT MOST 1048576: true; the input reads as it did. -/
def marksPlayUptoRow : OpenClaim := { program := "ytlihgcpiokaehaa", sum := "3d820cc370e87b39c344867f7cb671d915ab41ebb131eaaef7609a0ae5ae6fb4", func := "stylus/styluslaw04.MarksPlay", spec := "marksPlay", unfollowed := true, recurses := true, apart := false, narrowed := true }
def MarksPlayUptoSaid : Prop := marksPlayUptoRow.holds Try.pinned (OpenSpec.upto marksPlaySpec)

/-- 'styluslaw04.MarksNest', WHERE WHAT IT READS IS OF BULK AT MOST 1048576: true; the input reads as it did. -/
def marksNestUptoRow : OpenClaim := { program := "ytlihgcpiokaehaa", sum := "3d820cc370e87b39c344867f7cb671d915ab41ebb131eaaef7609a0ae5ae6fb4", func := "stylus/styluslaw04.MarksNest", spec := "marksNest", unfollowed := true, recurses := true, apart := false, narrowed := true }
def MarksNestUptoSaid : Prop := marksNestUptoRow.holds Try.pinned (OpenSpec.upto marksNestSpec)

end Rows
end Go.Proofs.Ytlihgcpiokaehaa
