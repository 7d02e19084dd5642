/-
  No cell of these rows narrows 'for every input' (looked for: loops, veiled, ifaces, maps, wideKeys, modest, calm, conditions, laid).
  DERIVED. THE GIVEN ROWS OF THIS SEAT. 3 by the template 'for every input the law returns true; each argument reads behind the call as it read before'; 0 by the template 'total and deterministic' (their statements: YtpgfmoddhjhlkaaTotals.lean).
  GIVEN WITH THE SEED: the statements are not yours to turn. If you find one false, say at which input.
  Laid BY PROGRAM, IN A SANDBOX (cutbox-rows.mjs): the forced cells as the released guide's own fill.sh prints them over the translation 33974ccb6c25956c… (all of the seat's roots in one cut). By AI agents, Wed Nov 11 2026. No macro, syntax, notation, axiom, sorry.
-/
import Derived.Test.YtpgfmoddhjhlkaaChecked
import GoSem.Claim
import GoSem.ClaimJoined
import GoSem.ClaimMapViews
import Derived.JoinedTies
import Derived.KernelRfl
namespace Go.Proofs.Ytpgfmoddhjhlkaa
/- THE CELL 'sum', in the pinned program and in every row, IS THE sha256 OF THE DUMP (.gsa) THAT YtpgfmoddhjhlkaaProg.lean LOADS. Nothing in Lean hashes anything: it is a label: what it is worth is what the hold of that sum in a sandbox is worth. -/
noncomputable def Try.pinned : Pinned := { name := "ytpgfmoddhjhlkaa", sum := "33974ccb6c25956cfd1cea603d473f89a15dd20e5df4231341b12afbc21a0c32", checked := Try.checked }
namespace Rows
def none {H : Type} : Left H := { results := [], args := [] }

/-- 'sherdlaw08.TagNext': WHATEVER THE INPUT: true; the input reads as it did. -/
def tagNextSpec : ChangeSpec := { name := "tagNext", fn := fun _ => fun
  | [d] => { results := [.lit (.bool true)], args := [d] }
  | _ => none }
def tagNextRow : OpenClaim := { program := "ytpgfmoddhjhlkaa", sum := "33974ccb6c25956cfd1cea603d473f89a15dd20e5df4231341b12afbc21a0c32", func := "sherd/sherdlaw08.TagNext", spec := "tagNext", apart := false }
def TagNextSaid : Prop := tagNextRow.holds Try.pinned (OpenSpec.ofChange tagNextSpec)

/-- ITS FALSE NEIGHBOUR: 'it returns false'. Refute it at one input. -/
def tagNextWrong : ChangeSpec := { name := "tagNext", fn := fun _ => fun
  | [d] => { results := [.lit (.bool false)], args := [d] }
  | _ => none }
def TagNextWrongFalsely : Prop := tagNextRow.holds Try.pinned (OpenSpec.ofChange tagNextWrong)

/-- 'sherdlaw08.TagOrder': WHATEVER THE INPUT: true; the input reads as it did. -/
def tagOrderSpec : ChangeSpec := { name := "tagOrder", fn := fun _ => fun
  | [d1, d2, d3] => { results := [.lit (.bool true)], args := [d1, d2, d3] }
  | _ => none }
def tagOrderRow : OpenClaim := { program := "ytpgfmoddhjhlkaa", sum := "33974ccb6c25956cfd1cea603d473f89a15dd20e5df4231341b12afbc21a0c32", func := "sherd/sherdlaw08.TagOrder", spec := "tagOrder", unfollowed := true, recurses := true, apart := false }
def TagOrderSaid : Prop := tagOrderRow.holds Try.pinned (OpenSpec.ofChange tagOrderSpec)

/-- ITS FALSE NEIGHBOUR: 'it returns false'. Refute it at one input. -/
def tagOrderWrong : ChangeSpec := { name := "tagOrder", fn := fun _ => fun
  | [d1, d2, d3] => { results := [.lit (.bool false)], args := [d1, d2, d3] }
  | _ => none }
def TagOrderWrongFalsely : Prop := tagOrderRow.holds Try.pinned (OpenSpec.ofChange tagOrderWrong)

/-- 'sherdlaw08.TagSets': WHATEVER THE INPUT: true; the input reads as it did. -/
def tagSetsSpec : ChangeSpec := { name := "tagSets", fn := fun _ => fun
  | [d1, d2] => { results := [.lit (.bool true)], args := [d1, d2] }
  | _ => none }
def tagSetsRow : OpenClaim := { program := "ytpgfmoddhjhlkaa", sum := "33974ccb6c25956cfd1cea603d473f89a15dd20e5df4231341b12afbc21a0c32", func := "sherd/sherdlaw08.TagSets", spec := "tagSets", inPlace := ["slices.overlaps[sherd/api.Tag]"], unfollowed := true, recurses := true, apart := false }
def TagSetsSaid : Prop := tagSetsRow.holds Try.pinned (OpenSpec.ofChange tagSetsSpec)

/-- ITS FALSE NEIGHBOUR: 'it returns false'. Refute it at one input. -/
def tagSetsWrong : ChangeSpec := { name := "tagSets", fn := fun _ => fun
  | [d1, d2] => { results := [.lit (.bool false)], args := [d1, d2] }
  | _ => none }
def TagSetsWrongFalsely : Prop := tagSetsRow.holds Try.pinned (OpenSpec.ofChange tagSetsWrong)

/- THE SECOND FORM. 'bulk': how many values and letters a reading holds, each counted each time it is reached (what is shared counts as often as it is met; a slice's spare places count too). A statement '..UptoSaid' is the law's where the arguments, and the package variables that the reading takes, are together of bulk at most 1048576: NARROWER than '..Said'. Prove '..Said' where nothing that the law and all that it calls make is longer than what came in: it says more and counts as full. Else prove '..UptoSaid'. A law counts once. -/
mutual
def uptoBulk {H : Type} : DataW H → Nat
  | .lit (.string bytes) => bytes.length + 1
  | .lit _ => 1
  | .nil => 1
  | .ptr d => uptoBulk d + 1
  | .slice elems spare => uptoBulkAll elems + uptoBulkAll spare + 1
  | .agg parts => uptoBulkAll parts + 1
  | .iface _ d => uptoBulk d + 1
  | .map entries => uptoBulkEntries entries + 1
  | .held _ => 1
def uptoBulkAll {H : Type} : List (DataW H) → Nat
  | [] => 0
  | d :: r => uptoBulk d + uptoBulkAll r
def uptoBulkEntries {H : Type} : List (Lit × DataW H) → Nat
  | [] => 0
  | x :: r => uptoBulkEntry x + uptoBulkEntries r
def uptoBulkEntry {H : Type} : Lit × DataW H → Nat
  | (.string bytes, d) => bytes.length + uptoBulk d + 1
  | (_, d) => uptoBulk d + 1
 end
def uptoSmall : (H : Type) → List (DataW H) → Bool := fun _ ds => decide (uptoBulkAll ds ≤ 1048576)
def OpenSpec.upto (s : _root_.Go.ChangeSpec) : _root_.Go.OpenSpec := { _root_.Go.OpenSpec.ofChange s with cond := some uptoSmall }

/-- 'sherdlaw08.TagNext', WHERE WHAT IT READS IS OF BULK AT MOST 1048576: true; the input reads as it did. -/
def tagNextUptoRow : OpenClaim := { program := "ytpgfmoddhjhlkaa", sum := "33974ccb6c25956cfd1cea603d473f89a15dd20e5df4231341b12afbc21a0c32", func := "sherd/sherdlaw08.TagNext", spec := "tagNext", apart := false, narrowed := true }
def TagNextUptoSaid : Prop := tagNextUptoRow.holds Try.pinned (OpenSpec.upto tagNextSpec)

/-- 'sherdlaw08.TagOrder', WHERE WHAT IT READS IS OF BULK AT MOST 1048576: true; the input reads as it did. -/
def tagOrderUptoRow : OpenClaim := { program := "ytpgfmoddhjhlkaa", sum := "33974ccb6c25956cfd1cea603d473f89a15dd20e5df4231341b12afbc21a0c32", func := "sherd/sherdlaw08.TagOrder", spec := "tagOrder", unfollowed := true, recurses := true, apart := false, narrowed := true }
def TagOrderUptoSaid : Prop := tagOrderUptoRow.holds Try.pinned (OpenSpec.upto tagOrderSpec)

/-- 'sherdlaw08.TagSets', WHERE WHAT IT READS IS OF BULK AT MOST 1048576: true; the input reads as it did. -/
def tagSetsUptoRow : OpenClaim := { program := "ytpgfmoddhjhlkaa", sum := "33974ccb6c25956cfd1cea603d473f89a15dd20e5df4231341b12afbc21a0c32", func := "sherd/sherdlaw08.TagSets", spec := "tagSets", inPlace := ["slices.overlaps[sherd/api.Tag]"], unfollowed := true, recurses := true, apart := false, narrowed := true }
def TagSetsUptoSaid : Prop := tagSetsUptoRow.holds Try.pinned (OpenSpec.upto tagSetsSpec)

end Rows
end Go.Proofs.Ytpgfmoddhjhlkaa
