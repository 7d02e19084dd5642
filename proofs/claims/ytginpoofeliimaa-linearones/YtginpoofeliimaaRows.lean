/-
  No cell of these rows narrows 'for every input' (looked for: loops, veiled, ifaces, maps, wideKeys, modest, calm, conditions, laid).
  DERIVED. THE GIVEN ROWS OF THIS SEAT. 4 by the template 'for every input the law returns true; each argument reads behind the call as it read before'; 0 by the template 'total and deterministic' (their statements: YtginpoofeliimaaTotals.lean).
  GIVEN WITH THE SEED: the statements are not yours to turn. If you find one false, say at which input.
  Laid BY PROGRAM, IN A SANDBOX (cutbox-rows.mjs): the forced cells as the released guide's own fill.sh prints them over the translation e5d80b7644cbdbd4… (all of the seat's roots in one cut). By AI agents, Wed Nov 11 2026. No macro, syntax, notation, axiom, sorry.
-/
import Derived.Test.YtginpoofeliimaaChecked
import GoSem.Claim
import GoSem.ClaimJoined
import GoSem.ClaimMapViews
import Derived.JoinedTies
import Derived.KernelRfl
namespace Go.Proofs.Ytginpoofeliimaa
/- THE CELL 'sum', in the pinned program and in every row, IS THE sha256 OF THE DUMP (.gsa) THAT YtginpoofeliimaaProg.lean LOADS. Nothing in Lean hashes anything: it is a label: what it is worth is what the hold of that sum in a sandbox is worth. -/
noncomputable def Try.pinned : Pinned := { name := "ytginpoofeliimaa", sum := "e5d80b7644cbdbd4f0391121069193c3b4e6998126f416b1694f46c2974904aa", checked := Try.checked }
namespace Rows
def none {H : Type} : Left H := { results := [], args := [] }

/-- 'sherdlaw20.LinearLess': WHATEVER THE INPUT: true; the input reads as it did. -/
def linearLessSpec : ChangeSpec := { name := "linearLess", fn := fun _ => fun
  | [d1, d2, d3] => { results := [.lit (.bool true)], args := [d1, d2, d3] }
  | _ => none }
def linearLessRow : OpenClaim := { program := "ytginpoofeliimaa", sum := "e5d80b7644cbdbd4f0391121069193c3b4e6998126f416b1694f46c2974904aa", func := "sherd/sherdlaw20.LinearLess", spec := "linearLess", unfollowed := true, recurses := true, apart := false }
def LinearLessSaid : Prop := linearLessRow.holds Try.pinned (OpenSpec.ofChange linearLessSpec)

/-- ITS FALSE NEIGHBOUR: 'it returns false'. Refute it at one input. -/
def linearLessWrong : ChangeSpec := { name := "linearLess", fn := fun _ => fun
  | [d1, d2, d3] => { results := [.lit (.bool false)], args := [d1, d2, d3] }
  | _ => none }
def LinearLessWrongFalsely : Prop := linearLessRow.holds Try.pinned (OpenSpec.ofChange linearLessWrong)

/-- 'sherdlaw20.LinearRight': WHATEVER THE INPUT: true; the input reads as it did. -/
def linearRightSpec : ChangeSpec := { name := "linearRight", fn := fun _ => fun
  | [d] => { results := [.lit (.bool true)], args := [d] }
  | _ => none }
def linearRightRow : OpenClaim := { program := "ytginpoofeliimaa", sum := "e5d80b7644cbdbd4f0391121069193c3b4e6998126f416b1694f46c2974904aa", func := "sherd/sherdlaw20.LinearRight", spec := "linearRight", unfollowed := true, recurses := true, apart := false }
def LinearRightSaid : Prop := linearRightRow.holds Try.pinned (OpenSpec.ofChange linearRightSpec)

/-- ITS FALSE NEIGHBOUR: 'it returns false'. Refute it at one input. -/
def linearRightWrong : ChangeSpec := { name := "linearRight", fn := fun _ => fun
  | [d] => { results := [.lit (.bool false)], args := [d] }
  | _ => none }
def LinearRightWrongFalsely : Prop := linearRightRow.holds Try.pinned (OpenSpec.ofChange linearRightWrong)

/-- 'sherdlaw20.LinearFirst': WHATEVER THE INPUT: true; the input reads as it did. -/
def linearFirstSpec : ChangeSpec := { name := "linearFirst", fn := fun _ => fun
  | [d] => { results := [.lit (.bool true)], args := [d] }
  | _ => none }
def linearFirstRow : OpenClaim := { program := "ytginpoofeliimaa", sum := "e5d80b7644cbdbd4f0391121069193c3b4e6998126f416b1694f46c2974904aa", func := "sherd/sherdlaw20.LinearFirst", spec := "linearFirst", unfollowed := true, recurses := true, apart := false }
def LinearFirstSaid : Prop := linearFirstRow.holds Try.pinned (OpenSpec.ofChange linearFirstSpec)

/-- ITS FALSE NEIGHBOUR: 'it returns false'. Refute it at one input. -/
def linearFirstWrong : ChangeSpec := { name := "linearFirst", fn := fun _ => fun
  | [d] => { results := [.lit (.bool false)], args := [d] }
  | _ => none }
def LinearFirstWrongFalsely : Prop := linearFirstRow.holds Try.pinned (OpenSpec.ofChange linearFirstWrong)

/-- 'sherdlaw20.LinearOnes': WHATEVER THE INPUT: true; the input reads as it did. -/
def linearOnesSpec : ChangeSpec := { name := "linearOnes", fn := fun _ => fun
  | [d] => { results := [.lit (.bool true)], args := [d] }
  | _ => none }
def linearOnesRow : OpenClaim := { program := "ytginpoofeliimaa", sum := "e5d80b7644cbdbd4f0391121069193c3b4e6998126f416b1694f46c2974904aa", func := "sherd/sherdlaw20.LinearOnes", spec := "linearOnes", unfollowed := true, recurses := true, apart := false }
def LinearOnesSaid : Prop := linearOnesRow.holds Try.pinned (OpenSpec.ofChange linearOnesSpec)

/-- ITS FALSE NEIGHBOUR: 'it returns false'. Refute it at one input. -/
def linearOnesWrong : ChangeSpec := { name := "linearOnes", fn := fun _ => fun
  | [d] => { results := [.lit (.bool false)], args := [d] }
  | _ => none }
def LinearOnesWrongFalsely : Prop := linearOnesRow.holds Try.pinned (OpenSpec.ofChange linearOnesWrong)

/- THE SECOND FORM. 'bulk': how many values and letters a reading holds, each counted each time it is reached (what is shared counts as often as it is met; a slice's spare places count too). A statement '..UptoSaid' is the law's where the arguments, and the package variables that the reading takes, are together of bulk at most 1048576: NARROWER than '..Said'. Prove '..Said' where nothing that the law and all that it calls make is longer than what came in: it says more and counts as full. Else prove '..UptoSaid'. A law counts once. -/
mutual
def uptoBulk {H : Type} : DataW H → Nat
  | .lit (.string bytes) => bytes.length + 1
  | .lit _ => 1
  | .nil => 1
  | .ptr d => uptoBulk d + 1
  | .slice elems spare => uptoBulkAll elems + uptoBulkAll spare + 1
  | .agg parts => uptoBulkAll parts + 1
  | .iface _ d => uptoBulk d + 1
  | .map entries => uptoBulkEntries entries + 1
  | .held _ => 1
def uptoBulkAll {H : Type} : List (DataW H) → Nat
  | [] => 0
  | d :: r => uptoBulk d + uptoBulkAll r
def uptoBulkEntries {H : Type} : List (Lit × DataW H) → Nat
  | [] => 0
  | x :: r => uptoBulkEntry x + uptoBulkEntries r
def uptoBulkEntry {H : Type} : Lit × DataW H → Nat
  | (.string bytes, d) => bytes.length + uptoBulk d + 1
  | (_, d) => uptoBulk d + 1
 end
def uptoSmall : (H : Type) → List (DataW H) → Bool := fun _ ds => decide (uptoBulkAll ds ≤ 1048576)
def OpenSpec.upto (s : _root_.Go.ChangeSpec) : _root_.Go.OpenSpec := { _root_.Go.OpenSpec.ofChange s with cond := some uptoSmall }

/-- 'sherdlaw20.LinearLess', WHERE WHAT IT READS IS OF BULK AT MOST 1048576: true; the input reads as it did. -/
def linearLessUptoRow : OpenClaim := { program := "ytginpoofeliimaa", sum := "e5d80b7644cbdbd4f0391121069193c3b4e6998126f416b1694f46c2974904aa", func := "sherd/sherdlaw20.LinearLess", spec := "linearLess", unfollowed := true, recurses := true, apart := false, narrowed := true }
def LinearLessUptoSaid : Prop := linearLessUptoRow.holds Try.pinned (OpenSpec.upto linearLessSpec)

/-- 'sherdlaw20.LinearRight', WHERE WHAT IT READS IS OF BULK AT MOST 1048576: true; the input reads as it did. -/
def linearRightUptoRow : OpenClaim := { program := "ytginpoofeliimaa", sum := "e5d80b7644cbdbd4f0391121069193c3b4e6998126f416b1694f46c2974904aa", func := "sherd/sherdlaw20.LinearRight", spec := "linearRight", unfollowed := true, recurses := true, apart := false, narrowed := true }
def LinearRightUptoSaid : Prop := linearRightUptoRow.holds Try.pinned (OpenSpec.upto linearRightSpec)

/-- 'sherdlaw20.LinearFirst', WHERE WHAT IT READS IS OF BULK AT MOST 1048576: true; the input reads as it did. -/
def linearFirstUptoRow : OpenClaim := { program := "ytginpoofeliimaa", sum := "e5d80b7644cbdbd4f0391121069193c3b4e6998126f416b1694f46c2974904aa", func := "sherd/sherdlaw20.LinearFirst", spec := "linearFirst", unfollowed := true, recurses := true, apart := false, narrowed := true }
def LinearFirstUptoSaid : Prop := linearFirstUptoRow.holds Try.pinned (OpenSpec.upto linearFirstSpec)

/-- 'sherdlaw20.LinearOnes', WHERE WHAT IT READS IS OF BULK AT MOST 1048576: true; the input reads as it did. -/
def linearOnesUptoRow : OpenClaim := { program := "ytginpoofeliimaa", sum := "e5d80b7644cbdbd4f0391121069193c3b4e6998126f416b1694f46c2974904aa", func := "sherd/sherdlaw20.LinearOnes", spec := "linearOnes", unfollowed := true, recurses := true, apart := false, narrowed := true }
def LinearOnesUptoSaid : Prop := linearOnesUptoRow.holds Try.pinned (OpenSpec.upto linearOnesSpec)

end Rows
end Go.Proofs.Ytginpoofeliimaa
